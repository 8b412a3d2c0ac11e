import Derived.Test.YtghpekkncfckaaaCaKn
import Derived.Test.YtghpekkncfckaaaCaRfr
import Derived.Test.YtghpekkncfckaaaLHold2
import Derived.Test.YtghpekkncfckaaaLStep
import Derived.Deep.DeepCutAuto
import Derived.Deep.CutBlock
import Derived.BigQuiet
namespace Go.Proofs.Ytghpekkncfckaaa.Ca
open Go.RowKit Go.Sort
attribute [local go_sem ↓] Go.wp_at_zero Go.wp_at_succ
theorem least_at (F : List T3) : ∀ (k : Nat) (y : T3), y ∈ F → (F.filter fun z => bel z y).length ≤ k → ∃ z ∈ F, bel z y = true ∧ ∀ u ∈ F, bel u z = true → u = z := by
  intro k
  induction k with
  | zero =>
    intro y hy hk
    have : y ∈ F.filter fun z => bel z y := List.mem_filter.2 ⟨hy, bel_refl y⟩
    rw [List.eq_nil_of_length_eq_zero (Nat.le_zero.1 hk)] at this
    cases this
  | succ k ih =>
    intro y hy hk
    by_cases h : ∃ u ∈ F, bel u y = true ∧ u ≠ y
    · obtain ⟨u, hu, hb, hne⟩ := h
      have hlt : (F.filter fun z => bel z u).length < (F.filter fun z => bel z y).length := by
        have e : (F.filter fun z => bel z u) = (F.filter fun z => bel z y).filter fun z => bel z u := by
          rw [List.filter_filter]
          refine List.filter_congr fun z _ => ?_
          cases hz : bel z u with
          | false => simp
          | true => simp [bel_trans hz hb]
        rw [e]
        refine List.length_filter_lt_length_iff_exists.2 ⟨y, List.mem_filter.2 ⟨hy, bel_refl y⟩, fun hyu => hne (bel_anti hb hyu)⟩
      obtain ⟨z, hz, h1, h2⟩ := ih u hu (by omega)
      exact ⟨z, hz, bel_trans h1 hb, h2⟩
    · refine ⟨y, hy, bel_refl y, fun u hu hb => ?_⟩
      by_cases e : u = y
      · exact e
      · exact absurd ⟨u, hu, hb, e⟩ h
/-- Open at some times is open at their front. -/
theorem opn_front {F r : List T3} (h : ∀ y, y ∈ r ↔ y ∈ F ∧ ∀ z ∈ F, bel z y = true → z = y) (t : T3) : opn r t = opn F t := by
  rw [Bool.eq_iff_iff, opn_true, opn_true]
  constructor
  · rintro ⟨y, hy, hb⟩
    exact ⟨y, ((h y).1 hy).1, hb⟩
  · rintro ⟨y, hy, hb⟩
    obtain ⟨z, hz, h1, h2⟩ := least_at F _ y hy (Nat.le_refl _)
    exact ⟨z, (h z).2 ⟨hz, h2⟩, bel_trans h1 hb⟩
theorem opn_app (F : List T3) (x t : T3) : opn (F ++ [x]) t = (opn F t || bel x t) := by simp [opn]
theorem done_more {F : List T3} {x : T3} {c : Ct} {A : List Ct} (h : c ∈ A.filter fun y => !opn (F ++ [x]) y.t) : opn F c.t = false ∧ bel x c.t = false := by
  have := (List.mem_filter.1 h).2
  rw [opn_app] at this
  simpa using this
theorem done_less {F : List T3} {x : T3} {A : List Ct} : (A.filter fun y => !opn (F ++ [x]) y.t).length ≤ (A.filter fun y => !opn F y.t).length := by
  have e : (A.filter fun y => !opn (F ++ [x]) y.t) = (A.filter fun y => !opn F y.t).filter fun y => !opn (F ++ [x]) y.t := by
    rw [List.filter_filter]
    refine List.filter_congr fun z _ => ?_
    rw [opn_app]
    cases opn F z.t <;> simp
  rw [e]
  exact List.length_filter_le _ _
theorem nodup_le {r : List T3} (h : r.Nodup) : ∀ {F : List T3}, (∀ y ∈ r, y ∈ F) → r.length ≤ F.length := by
  induction r with
  | nil => intro F _; exact Nat.zero_le _
  | cons x r ih =>
    intro F hs
    have hx := hs x (List.mem_cons_self ..)
    have h2 := List.nodup_cons.1 h
    have := ih h2.2 (F := F.erase x) fun y hy => (List.mem_erase_of_ne (fun e => h2.1 (by rw [← e]; exact hy))).2 (hs y (List.mem_cons_of_mem _ hy))
    rw [List.length_erase_of_mem hx] at this
    have hp := List.length_pos_of_mem hx
    rw [List.length_cons]
    omega
theorem front_len {r F : List T3} (h : r.Pairwise fun p q => tol p q = true) (hs : ∀ y ∈ r, y ∈ F) : r.length ≤ F.length := by
  have hnd : r.Nodup := h.imp fun {a b} hab e => by
    subst e
    rw [tol_iff] at hab
    omega
  exact nodup_le hnd hs
theorem upto_done {F : List T3} {x : T3} {c : Ct} {A : List Ct} (ho : opn F x = false) (h : c ∈ A.filter fun y => bel y.t x) : opn F c.t = false := by
  have h1 := (List.mem_filter.1 h).2
  rw [opn_false] at ho ⊢
  intro y hy
  cases hb : bel y c.t with
  | false => rfl
  | true => rw [← ho y hy, bel_trans hb h1]
set_option maxHeartbeats 16000000 in
set_option maxRecDepth 100000 in
theorem probeFronts_any {p q : Option Addr} {n c m d : Nat} {L : List Ct} {F : List T3} (mo : T3) (w : World) (hL : Ls EC w (.slice p n c) L) (hn : n = L.length) (hF : Ls ET w (.slice q m d) F) (hm : m = F.length) (hnb : L.length * 40 ≤ 140737488351232) (hmb : F.length * 24 ≤ 140737488351232) :
    Calls Try.prog 4 #[.slice p n c, .slice q m d, tv mo] w fun e w' => e = .returned (.bool true) ∧ Below w.heap.size w w' := by
  have hmx : Try.prog.follows .mixedOrders = true := by kernel_rfl
  have BDL : Hid (L.length * 40 ≤ 140737488355328 ∧ (0 + L.length) * 40 ≤ 140737488355328 ∧ 0 + L.length ≤ maxLen ∧ (([] : List Ct).length + L.length) * 40 ≤ 140737488355328 ∧ L.length ≤ 5864062014806) := ⟨by omega, by omega, by unfold maxLen; omega, by simp; omega, by omega⟩
  have BDF : Hid (F.length ≤ maxLen ∧ F.length ≤ 5864062014634 ∧ F.length ≤ 9223372036854775807 ∧ (0 + F.length) * 24 ≤ 140737488355328 ∧ 0 + F.length ≤ maxLen ∧ (0 + F.length + 1) * 24 ≤ 140737488355328 ∧ 0 + F.length + 1 ≤ maxLen) := ⟨by unfold maxLen; omega, by omega, by omega, by omega, by unfold maxLen; omega, by omega, by unfold maxLen; omega⟩
  obtain ⟨W0, hW0⟩ : ∃ W0, W0 = w.alloc (.cells #[.int .u64 mo.1, .int .u64 mo.2.1, .int .u64 mo.2.2] 25) := ⟨_, rfl⟩
  obtain ⟨B, hB⟩ : ∃ B, B = w.heap.size := ⟨_, rfl⟩
  have G0 : Gr w W0 := by rw [hW0]; exact (Gr.refl _).alloc _
  have HL := hid (hL.below G0.below)
  have HF := hid (hF.below G0.below)
  have HN := hid hn
  have HM := hid hm
  have MO : Hid (Tc W0 B 0 mo ∧ B < W0.heap.size) := by rw [hW0, hB]; exact ⟨tc_new w mo, by simp⟩
  have HG0 := hid G0
  clear hL hF G0 hnb hmb
  rw [hn] at HL
  rw [hm] at HF
  rw [hn, hm]
  clear hn hm
  go_enter Try.func4, Try.ntmps4
  have hc := new_any W0
  go_wp2_with fail
  rw [← hB, ← hW0]
  clear hB hW0
  refine hc.mono ?_
  clear hc
  rintro e W1 ⟨pb, rfl, H1⟩
  have BW : Hid (Below W0.heap.size W0 W1) := H1.out.2
  have PB := hid H1.out.1
  clear H1
  have hc := known_any W1
  go_wp2_with fail
  refine hc.mono ?_
  clear hc
  rintro e W2 ⟨rfl, hk⟩
  have hb : Below W1.heap.size W1 W2 := hk
  have BW' := hid (BW.out.trans (hb.mono BW.out.size))
  clear BW
  have BW := BW'
  clear BW'
  have PB' := hid (PB.out.below hb)
  clear PB
  have PB := PB'
  clear PB'
  clear hb
  clear hk
  have HZ2 : Hid (Below W2.heap.size W2 (W2.alloc (.cells #[] 36))) := ((Gr.refl _).alloc _).below
  go_wp2_with (at_builtin; refine wpAppL EC Try.underlying22 infoC rfl (by decide) rfl _ _ rfl W2.heap.size _ 0 [] rfl (World.ownsRow_made W2 #[] 0 (Nat.le_refl _) (Nat.zero_le _) rfl) _ L rfl (HL.out.below (BW.out.trans (HZ2.out.mono BW.out.size))) BDL.out.2.1 BDL.out.2.2.1 HZ2.out.size ?_)
  intro v4 W4 ho4 hg4
  have HO4 := hid ho4
  have HB4 : Hid (Below W2.heap.size W2 W4) := HZ2.out.trans ((Kp.grownBy (S := fun k => k = W2.heap.size) hg4 (fun k hk => by simpa [Value.ownBlock] using hk.symm)).below HZ2.out.size (fun k hk => by rw [hk]; exact Nat.le_refl _))
  clear ho4 hg4 HZ2
  obtain ⟨p4, c4, rfl⟩ := own_form HO4.out
  have hb := HB4.out
  have BW' := hid (BW.out.trans (hb.mono BW.out.size))
  clear BW
  have BW := BW'
  clear BW'
  have PB' := hid (PB.out.below hb)
  clear PB
  have PB := PB'
  clear PB'
  clear hb HB4
  have hc := catch_any W4 PB.out (owns_ls (E := EC) (owns_re HO4.out (by simp) (by simp))) BDL.out.2.2.2.1
  rw [List.nil_append] at hc
  go_wp2_with fail
  refine hc.mono ?_
  clear hc
  rintro e W5 ⟨rfl, H5⟩
  have PB' : Hid (Pb W5 (fun k => W0.heap.size ≤ k) pb L) := H5.out.1.mono fun k _ h => h.elim id (fun h => Nat.le_trans BW.out.size h)
  have BW' : Hid (Below W0.heap.size W0 W5) := BW.out.trans (H5.out.2.below BW.out.size (fun k hk => hk))
  clear BW PB H5 HO4
  have BW := BW'
  have PB := PB'
  clear BW' PB' 
  have hc := done_any W5 PB.out BDL.out.1 (HF.out.below BW.out) BDF.out.1
  go_wp2_with fail
  refine hc.mono ?_
  clear hc
  rintro e W6 ⟨p6, n6, c6, rfl, H6⟩
  have hb : Below W5.heap.size W5 W6 := H6.out.1.2
  have LA : Hid (Ls EC W6 (.slice p6 n6 c6) ((srt L).filter fun x => !opn F x.t)) := Tld.ls H6.out.1
  have NA := hid H6.out.2
  clear H6
  have BW' := hid (BW.out.trans (hb.mono BW.out.size))
  clear BW
  have BW := BW'
  clear BW'
  have PB' := hid (PB.out.below hb)
  clear PB
  have PB := PB'
  clear PB'
  clear hb
  have hc := r5front_any _ F W6 (HF.out.below BW.out) BDF.out.2.1
  go_wp2_with fail
  refine hc.mono ?_
  clear hc
  rintro e W7 ⟨v7, r7, rfl, o7, s7, m7, b7⟩
  have hb : Below W6.heap.size W6 W7 := b7
  have LR : Hid (Ls ET W7 v7 r7) := owns_lst o7.owns
  have OR := hid (fun t => opn_front m7 t)
  have NR : Hid (r7.length ≤ maxLen) := Nat.le_trans (front_len s7 (fun y hy => ((m7 y).1 hy).1)) BDF.out.1
  clear o7 s7 m7 b7
  have BW' := hid (BW.out.trans (hb.mono BW.out.size))
  clear BW
  have BW := BW'
  clear BW'
  have PB' := hid (PB.out.below hb)
  clear PB
  have PB := PB'
  clear PB'
  have LA' := hid (LA.out.below hb)
  clear LA
  have LA := LA'
  clear LA'
  clear hb
  obtain ⟨p7, c7, rfl⟩ := LR.out.form
  have hc := done_any W7 PB.out BDL.out.1 LR.out NR.out
  go_wp2_with fail
  refine hc.mono ?_
  clear hc
  rintro e W8 ⟨p8, n8, c8, rfl, H8⟩
  have hb : Below W7.heap.size W7 W8 := H8.out.1.2
  have H8' := H8.out
  rw [show (fun x : Ct => !opn r7 x.t) = fun x => !opn F x.t from funext fun x => by rw [OR.out]] at H8'
  have LB : Hid (Ls EC W8 (.slice p8 n8 c8) ((srt L).filter fun x => !opn F x.t)) := Tld.ls H8'.1
  have NB := hid H8'.2
  clear H8 H8' LR NR OR
  have BW' := hid (BW.out.trans (hb.mono BW.out.size))
  clear BW
  have BW := BW'
  clear BW'
  have PB' := hid (PB.out.below hb)
  clear PB
  have PB := PB'
  clear PB'
  have LA' := hid (LA.out.below hb)
  clear LA
  have LA := LA'
  clear LA'
  clear hb
  have HA : Hid (((srt L).filter fun x => !opn F x.t).length ≤ 5864062014806) := Nat.le_trans (List.length_filter_le _ _) (by rw [srt_len]; exact BDL.out.2.2.2.2)
  have hc := same_eq W8 LA.out LB.out HA.out
  go_wp2_with fail
  refine hc.mono ?_
  clear hc
  rintro e W9 ⟨rfl, g9⟩
  have hb : Below W8.heap.size W8 W9 := g9.below
  have BW' := hid (BW.out.trans (hb.mono BW.out.size))
  clear BW
  have BW := BW'
  clear BW'
  have PB' := hid (PB.out.below hb)
  clear PB
  have PB := PB'
  clear PB'
  have LA' := hid (LA.out.below hb)
  clear LA
  have LA := LA'
  clear LA'
  clear hb
  clear g9 LB NB
  clear LA
  have HSM : Hid (∀ W, Below W9.heap.size W9 W → Tc W B 0 mo ∧ B < W.heap.size) := fun W h => by
    have h2 := BW.out.trans (h.mono BW.out.size)
    exact ⟨MO.out.1.below MO.out.2 h2, Nat.lt_of_lt_of_le MO.out.2 h2.size⟩
  have HSF : Hid (∀ W, Below W9.heap.size W9 W → Ls ET W (.slice q F.length d) F) := fun W h => HF.out.below (BW.out.trans (h.mono BW.out.size))
  have hS0 : Below W9.heap.size W9 W9.drew := (Gr.refl W9).drew.below
  have HDN : Hid (∀ W v, Below W9.heap.size W9 W → W.ownsRow W9.heap.size 25 3 v (0 + F.length + 1) ([] ++ fl ET F ++ fl ET [mo]) → Calls Try.prog 18 #[.pointer (some ⟨pb, 0, none⟩), v] W fun e w' => ∃ p n c, e = .returned (.slice p n c) ∧ Hid (Ls EC w' (.slice p n c) ((srt L).filter fun x => !opn (F ++ [mo]) x.t) ∧ n = ((srt L).filter fun x => !opn (F ++ [mo]) x.t).length ∧ Below W9.heap.size W9 w')) := fun W v h ho => by
    refine (done_any W (PB.out.below h) BDL.out.1 (owns_ls (E := ET) (ts := F ++ [mo]) (owns_re ho (by simp) (by rw [fl_append]; rfl))) (by have := BDF.out.2.2.2.2.2.2; simp at this ⊢; exact this)).mono ?_
    rintro e w' ⟨p, n, c, rfl, H⟩
    exact ⟨p, n, c, rfl, Tld.ls H.out.1, H.out.2, h.trans (H.out.1.2.mono h.size)⟩
  go_upto_region 8 with fail
  go_cut [9] from 35 to 42 (fun s9 w' => ∃ p n c, s9 = .slice p n c ∧ Hid (Ls EC w' (.slice p n c) ((srt L).filter fun x => !opn (F ++ [mo]) x.t) ∧ n = ((srt L).filter fun x => !opn (F ++ [mo]) x.t).length ∧ Below W9.heap.size W9 w'))
  case first =>
    refine wp_regionD (S := fun W' => Below W9.heap.size W9 W') (D := []) hmx ?_
    generalize W9.drew = Wd at hS0 ⊢
    have BD := hid hS0
    refine' wpAnyD_take (i := 0) (oi := { dst := some 35, op := Go.Op.move (Go.Operand.tmp 7), type := 29, pos := "law.go:244", after := #[], guard := none }) (v := _) rfl (by kernel_rfl) (by kernel_rfl) (by kernel_rfl) (fun _ _ _ h => h) (by kernel_rfl) (Or.inl ⟨by rfl, ?hy1⟩) hS0 ?rest1
    case hy1 => (intro W hSw; go_simp; try (with_reducible rfl))
    try simp only [Act.put, List.setIfInBounds_toArray, List.set_cons_zero, List.set_cons_succ]
    refine' wpAnyD_take (i := 2) (oi := { dst := some 37, op := Go.Op.move (Go.Operand.tmp 1), type := 26, pos := "law.go:244", after := #[], guard := none }) (v := _) rfl (by kernel_rfl) (by kernel_rfl) (by kernel_rfl) (fun _ _ _ h => h) (by kernel_rfl) (Or.inl ⟨by rfl, ?hy2⟩) hS0 ?rest2
    case hy2 => (intro W hSw; go_simp; try (with_reducible rfl))
    try simp only [Act.put, List.setIfInBounds_toArray, List.set_cons_zero, List.set_cons_succ]
    refine' wpAnyD_take (i := 4) (oi := { dst := some 39, op := Go.Op.load 25 (Go.Operand.tmp 5), type := 25, pos := "law.go:244", after := #[], guard := none }) (v := _) rfl (by kernel_rfl) (by kernel_rfl) (by kernel_rfl) (fun _ _ _ h => h) (by kernel_rfl) (Or.inl ⟨by rfl, ?hy3⟩) hS0 ?rest3
    case hy3 => (intro W hSw; obtain ⟨⟨s1, s2, s3⟩, s4⟩ := HSM.out W hSw; go_simp; try (with_reducible rfl))
    try simp only [Act.put, List.setIfInBounds_toArray, List.set_cons_zero, List.set_cons_succ]

    refine wpAnyD_two (i := 1) (j := 5) (oi := { dst := some 36, op := Go.Op.buildSlice 26 0 #[], type := 26, pos := "law.go:244", after := #[], guard := none }) (oj := { dst := some 40, op := Go.Op.buildSlice 26 1 #[(0, Go.Operand.tmp 39)], type := 26, pos := "law.go:244", after := #[{ on := 4, ground := Go.Ground.data }], guard := none }) (by kernel_rfl) rfl rfl (fun K hK => ?_) (fun K hK => ?_)
    · skip
      rw [if_pos (by kernel_rfl)]
      go_simp
      have g7 := (Gr.refl Wd).alloc (.cells #[] 25)
      obtain ⟨b7, hb7⟩ : ∃ b, b = Wd.heap.size := ⟨_, rfl⟩
      obtain ⟨V7, hV7⟩ : ∃ V, V = Wd.alloc (.cells #[] 25) := ⟨_, rfl⟩
      rw [← hV7, ← hb7]
      rw [← hV7] at g7
      have B7 := hid (BD.out.trans (g7.below.mono BD.out.size))
      have O7 : Hid (V7.ownsRow W9.heap.size 25 3 (.slice (some ⟨b7, 0, none⟩) 0 0) 0 []) := by
        rw [hV7, hb7]
        exact World.ownsRow_made Wd #[] 0 BD.out.size (Nat.zero_le _) rfl
      clear g7 hV7 hb7
      refine hK.out _ _ (fun hD => B7.out) ?_
      clear hK K
      try simp only [Act.put, List.setIfInBounds_toArray, List.set_cons_zero, List.set_cons_succ]
      refine wpAnyD_two (i := 3) (j := 5) (oi := { dst := some 38, op := Go.Op.call { callee := Go.Callee.builtin Go.Builtin.append, args := #[Go.Operand.tmp 36, Go.Operand.tmp 37], argTypes := #[26, 26] }, type := 26, pos := "law.go:244", after := #[{ on := 1, ground := Go.Ground.data }, { on := 2, ground := Go.Ground.data }], guard := none }) (oj := { dst := some 40, op := Go.Op.buildSlice 26 1 #[(0, Go.Operand.tmp 39)], type := 26, pos := "law.go:244", after := #[{ on := 4, ground := Go.Ground.data }], guard := none }) (by kernel_rfl) rfl rfl (fun K hK => ?_) (fun K hK => ?_)
      · skip
        refine step_appL ET Try.underlying26 infoT rfl (by decide) rfl _ _ rfl W9.heap.size (.slice (some ⟨b7, 0, none⟩) 0 0) 0 [] rfl O7.out B7.out.size (.slice q F.length d) F rfl (HSF.out _ B7.out) BDF.out.2.2.2.1 BDF.out.2.2.2.2.1 ?_
        intro v8 w8 h8 k8
        have K8 := hid (Kp.grownBy (S := fun k => ((.slice (some ⟨b7, 0, none⟩) 0 0) : Value).ownBlock = some k) k8.out (fun _ h => h))
        have B8 := hid (B7.out.trans (K8.out.below B7.out.size (fun k hk => (O7.out.lt k hk).1)))
        have O8 : Hid (w8.ownsRow W9.heap.size 25 3 v8 (0 + F.length) ([] ++ fl ET F)) := h8.out
        clear h8 k8
        refine hK.out _ _ (fun hD => B8.out) ?_
        clear hK K
        try simp only [Act.put, List.setIfInBounds_toArray, List.set_cons_zero, List.set_cons_succ]
        refine wpAnyD_one (i := 5) (o := { dst := some 40, op := Go.Op.buildSlice 26 1 #[(0, Go.Operand.tmp 39)], type := 26, pos := "law.go:244", after := #[{ on := 4, ground := Go.Ground.data }], guard := none }) (by kernel_rfl) rfl (fun K hK => ?_)
        rw [if_pos (by kernel_rfl)]
        go_simp
        have g9 := (Gr.refl w8).alloc (.cells #[.int .u64 mo.1, .int .u64 mo.2.1, .int .u64 mo.2.2] 25)
        have a9 := heap_new' w8 (.cells #[.int .u64 mo.1, .int .u64 mo.2.1, .int .u64 mo.2.2] 25)
        obtain ⟨b9, hb9⟩ : ∃ b, b = w8.heap.size := ⟨_, rfl⟩
        obtain ⟨V9, hV9⟩ : ∃ V, V = w8.alloc (.cells #[.int .u64 mo.1, .int .u64 mo.2.1, .int .u64 mo.2.2] 25) := ⟨_, rfl⟩
        rw [← hV9, ← hb9]
        rw [← hV9] at g9 a9
        have B9 := hid (B8.out.trans (g9.below.mono B8.out.size))
        have M9 : Hid (V9.heap[b9]? = some (.cells #[.int .u64 mo.1, .int .u64 mo.2.1, .int .u64 mo.2.2] 25 (0, 0))) := by
          show _ = _
          rw [hb9]
          exact a9
        have O9 := hid (owns_below O8.out g9.below)
        have N9 : Hid (∀ k, (v8 : Value).ownBlock = some k → k ≠ b9) := fun k hk e => by
          have h1 := (O8.out.lt k hk).2
          omega
        clear g9 a9 hV9 hb9
        refine hK.out _ _ (fun hD => B9.out) ?_
        clear hK K
        try simp only [Act.put, List.setIfInBounds_toArray, List.set_cons_zero, List.set_cons_succ]
        refine wpAnyD_one (i := 6) (o := { dst := some 41, op := Go.Op.call { callee := Go.Callee.builtin Go.Builtin.append, args := #[Go.Operand.tmp 38, Go.Operand.tmp 40], argTypes := #[26, 26] }, type := 26, pos := "law.go:244", after := #[{ on := 3, ground := Go.Ground.data }, { on := 5, ground := Go.Ground.data }, { on := 3, ground := Go.Ground.chain }], guard := none }) (by kernel_rfl) rfl (fun K hK => ?_)
        refine step_appL ET Try.underlying26 infoT rfl (by decide) rfl _ _ rfl W9.heap.size v8 (0 + F.length) ([] ++ fl ET F) rfl O9.out B9.out.size (.slice (some ⟨b9, 0, none⟩) 1 1) [mo] rfl (ls_lit M9.out rfl _ _ rfl) BDF.out.2.2.2.2.2.1 BDF.out.2.2.2.2.2.2 ?_
        intro v10 w10 h10 k10
        have K10 := hid (Kp.grownBy (S := fun k => (v8 : Value).ownBlock = some k) k10.out (fun _ h => h))
        have B10 := hid (B9.out.trans (K10.out.below B9.out.size (fun k hk => (O9.out.lt k hk).1)))
        have hc := HDN.out _ _ B10.out h10.out
        clear h10 k10
        refine hK.out _ _ (fun hD => B10.out) ?_
        clear hK K
        try simp only [Act.put, List.setIfInBounds_toArray, List.set_cons_zero, List.set_cons_succ]
        refine wpAnyD_one (i := 7) (o := { dst := some 42, op := Go.Op.call { callee := Go.Callee.value (Go.Operand.func 18), args := #[Go.Operand.tmp 35, Go.Operand.tmp 41], argTypes := #[29, 26] }, type := 22, pos := "law.go:244", after := #[{ on := 0, ground := Go.Ground.data }, { on := 6, ground := Go.Ground.data }, { on := 6, ground := Go.Ground.chain }], guard := none }) (by kernel_rfl) rfl (fun K hK => ?_)
        rw [if_pos (by kernel_rfl)]
        go_simp
        refine hc.mono ?_
        clear hc
        rintro e u10 ⟨p10, n10, c10, rfl, Hd⟩
        have E10 := hid Hd.out.2.2
        dsimp only
        refine hK.out _ _ (fun hD => E10.out) ?_
        clear hK K
        try simp only [Act.put, List.setIfInBounds_toArray, List.set_cons_zero, List.set_cons_succ]
        refine wpAnyD_one (i := 8) (o := { dst := some 9, op := Go.Op.assign (Go.Operand.tmp 42), type := 22, pos := "law.go:244", after := #[{ on := 7, ground := Go.Ground.data }, { on := 7, ground := Go.Ground.chain }, { on := 0, ground := Go.Ground.phase }, { on := 1, ground := Go.Ground.phase }, { on := 2, ground := Go.Ground.phase }, { on := 3, ground := Go.Ground.phase }, { on := 4, ground := Go.Ground.phase }, { on := 5, ground := Go.Ground.phase }, { on := 6, ground := Go.Ground.phase }, { on := 7, ground := Go.Ground.phase }], guard := none }) (by kernel_rfl) rfl (fun K hK => ?_)
        rw [if_pos (by kernel_rfl)]
        go_simp
        refine hK.out _ _ (fun hD => E10.out) ?_
        clear hK K
        try simp only [Act.put, List.setIfInBounds_toArray, List.set_cons_zero, List.set_cons_succ]
        refine wpAnyD_done (by kernel_rfl) ?_ _
        go_wp2_with fail
        go_meet
        exact ⟨_, _, _, rfl, Hd⟩
      · skip
        rw [if_pos (by kernel_rfl)]
        go_simp
        have g13 := (Gr.refl V7).alloc (.cells #[.int .u64 mo.1, .int .u64 mo.2.1, .int .u64 mo.2.2] 25)
        have a13 := heap_new' V7 (.cells #[.int .u64 mo.1, .int .u64 mo.2.1, .int .u64 mo.2.2] 25)
        obtain ⟨b13, hb13⟩ : ∃ b, b = V7.heap.size := ⟨_, rfl⟩
        obtain ⟨V13, hV13⟩ : ∃ V, V = V7.alloc (.cells #[.int .u64 mo.1, .int .u64 mo.2.1, .int .u64 mo.2.2] 25) := ⟨_, rfl⟩
        rw [← hV13, ← hb13]
        rw [← hV13] at g13 a13
        have B13 := hid (B7.out.trans (g13.below.mono B7.out.size))
        have M13 : Hid (V13.heap[b13]? = some (.cells #[.int .u64 mo.1, .int .u64 mo.2.1, .int .u64 mo.2.2] 25 (0, 0))) := by
          show _ = _
          rw [hb13]
          exact a13
        have O13 := hid (owns_below O7.out g13.below)
        have N13 : Hid (∀ k, ((.slice (some ⟨b7, 0, none⟩) 0 0) : Value).ownBlock = some k → k ≠ b13) := fun k hk e => by
          have h1 := (O7.out.lt k hk).2
          omega
        clear g13 a13 hV13 hb13
        refine hK.out _ _ (fun hD => B13.out) ?_
        clear hK K
        try simp only [Act.put, List.setIfInBounds_toArray, List.set_cons_zero, List.set_cons_succ]
        refine wpAnyD_one (i := 3) (o := { dst := some 38, op := Go.Op.call { callee := Go.Callee.builtin Go.Builtin.append, args := #[Go.Operand.tmp 36, Go.Operand.tmp 37], argTypes := #[26, 26] }, type := 26, pos := "law.go:244", after := #[{ on := 1, ground := Go.Ground.data }, { on := 2, ground := Go.Ground.data }], guard := none }) (by kernel_rfl) rfl (fun K hK => ?_)
        refine step_appL ET Try.underlying26 infoT rfl (by decide) rfl _ _ rfl W9.heap.size (.slice (some ⟨b7, 0, none⟩) 0 0) 0 [] rfl O13.out B13.out.size (.slice q F.length d) F rfl (HSF.out _ B13.out) BDF.out.2.2.2.1 BDF.out.2.2.2.2.1 ?_
        intro v14 w14 h14 k14
        have K14 := hid (Kp.grownBy (S := fun k => ((.slice (some ⟨b7, 0, none⟩) 0 0) : Value).ownBlock = some k) k14.out (fun _ h => h))
        have B14 := hid (B13.out.trans (K14.out.below B13.out.size (fun k hk => (O13.out.lt k hk).1)))
        have O14 : Hid (w14.ownsRow W9.heap.size 25 3 v14 (0 + F.length) ([] ++ fl ET F)) := h14.out
        have M14 := hid ((K14.out.block _ (tk_lt M13.out) (fun e => N13.out _ e rfl)).trans M13.out)
        clear h14 k14
        refine hK.out _ _ (fun hD => B14.out) ?_
        clear hK K
        try simp only [Act.put, List.setIfInBounds_toArray, List.set_cons_zero, List.set_cons_succ]
        refine wpAnyD_one (i := 6) (o := { dst := some 41, op := Go.Op.call { callee := Go.Callee.builtin Go.Builtin.append, args := #[Go.Operand.tmp 38, Go.Operand.tmp 40], argTypes := #[26, 26] }, type := 26, pos := "law.go:244", after := #[{ on := 3, ground := Go.Ground.data }, { on := 5, ground := Go.Ground.data }, { on := 3, ground := Go.Ground.chain }], guard := none }) (by kernel_rfl) rfl (fun K hK => ?_)
        refine step_appL ET Try.underlying26 infoT rfl (by decide) rfl _ _ rfl W9.heap.size v14 (0 + F.length) ([] ++ fl ET F) rfl O14.out B14.out.size (.slice (some ⟨b13, 0, none⟩) 1 1) [mo] rfl (ls_lit M14.out rfl _ _ rfl) BDF.out.2.2.2.2.2.1 BDF.out.2.2.2.2.2.2 ?_
        intro v15 w15 h15 k15
        have K15 := hid (Kp.grownBy (S := fun k => (v14 : Value).ownBlock = some k) k15.out (fun _ h => h))
        have B15 := hid (B14.out.trans (K15.out.below B14.out.size (fun k hk => (O14.out.lt k hk).1)))
        have hc := HDN.out _ _ B15.out h15.out
        clear h15 k15
        refine hK.out _ _ (fun hD => B15.out) ?_
        clear hK K
        try simp only [Act.put, List.setIfInBounds_toArray, List.set_cons_zero, List.set_cons_succ]
        refine wpAnyD_one (i := 7) (o := { dst := some 42, op := Go.Op.call { callee := Go.Callee.value (Go.Operand.func 18), args := #[Go.Operand.tmp 35, Go.Operand.tmp 41], argTypes := #[29, 26] }, type := 22, pos := "law.go:244", after := #[{ on := 0, ground := Go.Ground.data }, { on := 6, ground := Go.Ground.data }, { on := 6, ground := Go.Ground.chain }], guard := none }) (by kernel_rfl) rfl (fun K hK => ?_)
        rw [if_pos (by kernel_rfl)]
        go_simp
        refine hc.mono ?_
        clear hc
        rintro e u15 ⟨p15, n15, c15, rfl, Hd⟩
        have E15 := hid Hd.out.2.2
        dsimp only
        refine hK.out _ _ (fun hD => E15.out) ?_
        clear hK K
        try simp only [Act.put, List.setIfInBounds_toArray, List.set_cons_zero, List.set_cons_succ]
        refine wpAnyD_one (i := 8) (o := { dst := some 9, op := Go.Op.assign (Go.Operand.tmp 42), type := 22, pos := "law.go:244", after := #[{ on := 7, ground := Go.Ground.data }, { on := 7, ground := Go.Ground.chain }, { on := 0, ground := Go.Ground.phase }, { on := 1, ground := Go.Ground.phase }, { on := 2, ground := Go.Ground.phase }, { on := 3, ground := Go.Ground.phase }, { on := 4, ground := Go.Ground.phase }, { on := 5, ground := Go.Ground.phase }, { on := 6, ground := Go.Ground.phase }, { on := 7, ground := Go.Ground.phase }], guard := none }) (by kernel_rfl) rfl (fun K hK => ?_)
        rw [if_pos (by kernel_rfl)]
        go_simp
        refine hK.out _ _ (fun hD => E15.out) ?_
        clear hK K
        try simp only [Act.put, List.setIfInBounds_toArray, List.set_cons_zero, List.set_cons_succ]
        refine wpAnyD_done (by kernel_rfl) ?_ _
        go_wp2_with fail
        go_meet
        exact ⟨_, _, _, rfl, Hd⟩
    · skip
      rw [if_pos (by kernel_rfl)]
      go_simp
      have g17 := (Gr.refl Wd).alloc (.cells #[.int .u64 mo.1, .int .u64 mo.2.1, .int .u64 mo.2.2] 25)
      have a17 := heap_new' Wd (.cells #[.int .u64 mo.1, .int .u64 mo.2.1, .int .u64 mo.2.2] 25)
      obtain ⟨b17, hb17⟩ : ∃ b, b = Wd.heap.size := ⟨_, rfl⟩
      obtain ⟨V17, hV17⟩ : ∃ V, V = Wd.alloc (.cells #[.int .u64 mo.1, .int .u64 mo.2.1, .int .u64 mo.2.2] 25) := ⟨_, rfl⟩
      rw [← hV17, ← hb17]
      rw [← hV17] at g17 a17
      have B17 := hid (BD.out.trans (g17.below.mono BD.out.size))
      have M17 : Hid (V17.heap[b17]? = some (.cells #[.int .u64 mo.1, .int .u64 mo.2.1, .int .u64 mo.2.2] 25 (0, 0))) := by
        show _ = _
        rw [hb17]
        exact a17
      clear g17 a17 hV17 hb17
      refine hK.out _ _ (fun hD => B17.out) ?_
      clear hK K
      try simp only [Act.put, List.setIfInBounds_toArray, List.set_cons_zero, List.set_cons_succ]
      refine wpAnyD_one (i := 1) (o := { dst := some 36, op := Go.Op.buildSlice 26 0 #[], type := 26, pos := "law.go:244", after := #[], guard := none }) (by kernel_rfl) rfl (fun K hK => ?_)
      rw [if_pos (by kernel_rfl)]
      go_simp
      have g18 := (Gr.refl V17).alloc (.cells #[] 25)
      obtain ⟨b18, hb18⟩ : ∃ b, b = V17.heap.size := ⟨_, rfl⟩
      obtain ⟨V18, hV18⟩ : ∃ V, V = V17.alloc (.cells #[] 25) := ⟨_, rfl⟩
      rw [← hV18, ← hb18]
      rw [← hV18] at g18
      have B18 := hid (B17.out.trans (g18.below.mono B17.out.size))
      have O18 : Hid (V18.ownsRow W9.heap.size 25 3 (.slice (some ⟨b18, 0, none⟩) 0 0) 0 []) := by
        rw [hV18, hb18]
        exact World.ownsRow_made V17 #[] 0 B17.out.size (Nat.zero_le _) rfl
      have M18 := hid ((g18.below.block _ (tk_lt M17.out)).trans M17.out)
      have N18 : Hid (∀ k, ((.slice (some ⟨b18, 0, none⟩) 0 0) : Value).ownBlock = some k → k ≠ b17) := fun k hk e => by
        have h1 := tk_lt M17.out
        simp [Value.ownBlock] at hk
        omega
      clear g18 hV18 hb18
      refine hK.out _ _ (fun hD => B18.out) ?_
      clear hK K
      try simp only [Act.put, List.setIfInBounds_toArray, List.set_cons_zero, List.set_cons_succ]
      refine wpAnyD_one (i := 3) (o := { dst := some 38, op := Go.Op.call { callee := Go.Callee.builtin Go.Builtin.append, args := #[Go.Operand.tmp 36, Go.Operand.tmp 37], argTypes := #[26, 26] }, type := 26, pos := "law.go:244", after := #[{ on := 1, ground := Go.Ground.data }, { on := 2, ground := Go.Ground.data }], guard := none }) (by kernel_rfl) rfl (fun K hK => ?_)
      refine step_appL ET Try.underlying26 infoT rfl (by decide) rfl _ _ rfl W9.heap.size (.slice (some ⟨b18, 0, none⟩) 0 0) 0 [] rfl O18.out B18.out.size (.slice q F.length d) F rfl (HSF.out _ B18.out) BDF.out.2.2.2.1 BDF.out.2.2.2.2.1 ?_
      intro v19 w19 h19 k19
      have K19 := hid (Kp.grownBy (S := fun k => ((.slice (some ⟨b18, 0, none⟩) 0 0) : Value).ownBlock = some k) k19.out (fun _ h => h))
      have B19 := hid (B18.out.trans (K19.out.below B18.out.size (fun k hk => (O18.out.lt k hk).1)))
      have O19 : Hid (w19.ownsRow W9.heap.size 25 3 v19 (0 + F.length) ([] ++ fl ET F)) := h19.out
      clear h19 k19
      refine hK.out _ _ (fun hD => B19.out) ?_
      clear hK K
      try simp only [Act.put, List.setIfInBounds_toArray, List.set_cons_zero, List.set_cons_succ]
      have M19 := hid ((K19.out.block _ (tk_lt M18.out) (fun e => N18.out _ e rfl)).trans M18.out)
      refine wpAnyD_one (i := 6) (o := { dst := some 41, op := Go.Op.call { callee := Go.Callee.builtin Go.Builtin.append, args := #[Go.Operand.tmp 38, Go.Operand.tmp 40], argTypes := #[26, 26] }, type := 26, pos := "law.go:244", after := #[{ on := 3, ground := Go.Ground.data }, { on := 5, ground := Go.Ground.data }, { on := 3, ground := Go.Ground.chain }], guard := none }) (by kernel_rfl) rfl (fun K hK => ?_)
      refine step_appL ET Try.underlying26 infoT rfl (by decide) rfl _ _ rfl W9.heap.size v19 (0 + F.length) ([] ++ fl ET F) rfl O19.out B19.out.size (.slice (some ⟨b17, 0, none⟩) 1 1) [mo] rfl (ls_lit M19.out rfl _ _ rfl) BDF.out.2.2.2.2.2.1 BDF.out.2.2.2.2.2.2 ?_
      intro v20 w20 h20 k20
      have K20 := hid (Kp.grownBy (S := fun k => (v19 : Value).ownBlock = some k) k20.out (fun _ h => h))
      have B20 := hid (B19.out.trans (K20.out.below B19.out.size (fun k hk => (O19.out.lt k hk).1)))
      have hc := HDN.out _ _ B20.out h20.out
      clear h20 k20
      refine hK.out _ _ (fun hD => B20.out) ?_
      clear hK K
      try simp only [Act.put, List.setIfInBounds_toArray, List.set_cons_zero, List.set_cons_succ]
      refine wpAnyD_one (i := 7) (o := { dst := some 42, op := Go.Op.call { callee := Go.Callee.value (Go.Operand.func 18), args := #[Go.Operand.tmp 35, Go.Operand.tmp 41], argTypes := #[29, 26] }, type := 22, pos := "law.go:244", after := #[{ on := 0, ground := Go.Ground.data }, { on := 6, ground := Go.Ground.data }, { on := 6, ground := Go.Ground.chain }], guard := none }) (by kernel_rfl) rfl (fun K hK => ?_)
      rw [if_pos (by kernel_rfl)]
      go_simp
      refine hc.mono ?_
      clear hc
      rintro e u20 ⟨p20, n20, c20, rfl, Hd⟩
      have E20 := hid Hd.out.2.2
      dsimp only
      refine hK.out _ _ (fun hD => E20.out) ?_
      clear hK K
      try simp only [Act.put, List.setIfInBounds_toArray, List.set_cons_zero, List.set_cons_succ]
      refine wpAnyD_one (i := 8) (o := { dst := some 9, op := Go.Op.assign (Go.Operand.tmp 42), type := 22, pos := "law.go:244", after := #[{ on := 7, ground := Go.Ground.data }, { on := 7, ground := Go.Ground.chain }, { on := 0, ground := Go.Ground.phase }, { on := 1, ground := Go.Ground.phase }, { on := 2, ground := Go.Ground.phase }, { on := 3, ground := Go.Ground.phase }, { on := 4, ground := Go.Ground.phase }, { on := 5, ground := Go.Ground.phase }, { on := 6, ground := Go.Ground.phase }, { on := 7, ground := Go.Ground.phase }], guard := none }) (by kernel_rfl) rfl (fun K hK => ?_)
      rw [if_pos (by kernel_rfl)]
      go_simp
      refine hK.out _ _ (fun hD => E20.out) ?_
      clear hK K
      try simp only [Act.put, List.setIfInBounds_toArray, List.set_cons_zero, List.set_cons_succ]
      refine wpAnyD_done (by kernel_rfl) ?_ _
      go_wp2_with fail
      go_meet
      exact ⟨_, _, _, rfl, Hd⟩
  case rest =>
    obtain ⟨p9, n9, c9, rfl, H9⟩ := hcut
    have LB := hid H9.out.1
    have NB := hid H9.out.2.1
    have hb := H9.out.2.2
    clear H9 HSM HSF HDN
    -- W10
    obtain ⟨W10, hW10⟩ : ∃ V, V = wc := ⟨_, rfl⟩
    rw [← hW10] at LB hb ⊢
    clear hW10
    have BW' := hid (BW.out.trans (hb.mono BW.out.size))
    clear BW
    have BW := BW'
    clear BW'
    have PB' := hid (PB.out.below hb)
    clear PB
    have PB := PB'
    clear PB'
    clear hb
    have hle : n9 ≤ n6 := by rw [NB.out, NA.out]; exact done_less
    have hlz : ¬ ((n6 : Int) < (n9 : Int)) := by omega
    have hb9 : n9 ≤ 5864062014806 := by have h1 := NA.out; have h2 := HA.out; omega
    have HE := hid (fun (j : Nat) (x : Ct) (hx : (((srt L).filter fun x => !opn (F ++ [mo]) x.t))[j]? = some x) => done_more (List.mem_of_getElem? hx))
    have HU := hid (fun (j : Nat) (x : Ct) (ho : opn F mo = false) (hx : ((srt L).filter fun y => bel y.t mo)[j]? = some x) => upto_done ho (List.mem_of_getElem? hx))
    generalize ((srt L).filter fun x => !opn (F ++ [mo]) x.t) = D at LB NB HE
    go_wp2_with fail
    go_loopw [10] (fun s10 wr => ∃ i : Nat, i ≤ n9 ∧ s10 = .int .i64 (i : Nat) ∧ Hid (Below W10.heap.size W10 wr)) (fun s10 _ => n9 - (RowKit.intOf s10).toNat)
    case atStart => exact ⟨0, Nat.zero_le _, rfl, Below.refl _ _⟩
    case round =>
      obtain ⟨i, hi, rfl, HI⟩ := hrel
      by_cases hlt : i < n9
      · have hz : (i : Int) < (n9 : Int) := by omega
        have hi0 : (0 : Int) ≤ (i : Int) := by omega
        obtain ⟨x, hx⟩ : ∃ x, D[i]? = some x := ⟨D[i]'(by have := NB.out; omega), by simp⟩
        obtain ⟨ho, hm⟩ := HE.out i x hx
        have hS0 : Below W10.heap.size W10 wr.drew := HI.out.trans ((Gr.refl wr).drew.below.mono HI.out.size)
        have HSM : Hid (∀ W, Below W10.heap.size W10 W → (Tc W B 0 mo ∧ B < W.heap.size) ∧ ∃ b1 o1, p9 = some ⟨b1, o1, none⟩ ∧ b1 < W.heap.size ∧ Cc W b1 (o1 + i * 5) x) := fun W h => by
          have h2 := BW.out.trans (h.mono BW.out.size)
          obtain ⟨b1, o1, q1, e1, l1, h3⟩ := atC (LB.out.below h) hx
          simp only [Value.slice.injEq] at e1
          exact ⟨⟨MO.out.1.below MO.out.2 h2, Nat.lt_of_lt_of_le MO.out.2 h2.size⟩, b1, o1, e1.1, l1, h3⟩
        obtain ⟨-, b1, o1, rfl, -, -⟩ := HSM.out _ hS0
        have HSC : Hid (∀ W, Below W10.heap.size W10 W → Tc W B 0 mo ∧ B < W.heap.size ∧ b1 < W.heap.size ∧ Cc W b1 (o1 + i * 5) x) := fun W h => by
          obtain ⟨h1, b2, o2, e2, h3, h4⟩ := HSM.out W h
          cases e2
          exact ⟨h1.1, h1.2, h3, h4⟩
        have hah : ∀ W, Calls Try.prog 14 #[tv mo, tv x.t] W fun e w' => e = .returned (.bool false) ∧ Gr W w' := fun W => by
          have := r5ahead_any mo x.t W
          rw [hm] at this
          exact this
        have hop : ∀ W, Below W10.heap.size W10 W → Calls Try.prog 15 #[.slice q F.length d, tv x.t] W fun e w' => e = .returned (.bool false) ∧ Gr W w' := fun W h => by
          have := r5open_any _ F x.t W (HF.out.below (BW.out.trans (h.mono BW.out.size))) BDF.out.2.2.1
          rw [ho] at this
          exact this
        clear hx ho hm HSM
        dsimp only [Ct.t] at hah hop
        go_upto_region 14 with fail
        refine wp_regionD (S := fun W' => Below W10.heap.size W10 W') (D := []) hmx ?_
        refine' wpAnyD_take (i := 0) (oi := { dst := some 54, op := Go.Op.load 25 (Go.Operand.tmp 5), type := 25, pos := "law.go:249", after := #[], guard := none }) (v := _) rfl (by kernel_rfl) (by kernel_rfl) (by kernel_rfl) (fun _ _ _ h => h) (by kernel_rfl) (Or.inl ⟨by rfl, ?hy4⟩) hS0 ?rest4
        case hy4 => (intro W hSw; obtain ⟨⟨s1, s2, s3⟩, s4, s5, ⟨s6, s7, s8, s9, s10⟩⟩ := HSC.out W hSw; go_simp; try (with_reducible rfl))
        try simp only [Act.put, List.setIfInBounds_toArray, List.set_cons_zero, List.set_cons_succ]
        refine' wpAnyD_take (i := 1) (oi := { dst := some 55, op := Go.Op.move (Go.Operand.tmp 9), type := 22, pos := "law.go:249", after := #[], guard := none }) (v := _) rfl (by kernel_rfl) (by kernel_rfl) (by kernel_rfl) (fun _ _ _ h => h) (by kernel_rfl) (Or.inl ⟨by rfl, ?hy5⟩) hS0 ?rest5
        case hy5 => (intro W hSw; go_simp; try (with_reducible rfl))
        try simp only [Act.put, List.setIfInBounds_toArray, List.set_cons_zero, List.set_cons_succ]
        refine' wpAnyD_take (i := 2) (oi := { dst := some 56, op := Go.Op.move (Go.Operand.tmp 10), type := 3, pos := "law.go:249", after := #[], guard := none }) (v := _) rfl (by kernel_rfl) (by kernel_rfl) (by kernel_rfl) (fun _ _ _ h => h) (by kernel_rfl) (Or.inl ⟨by rfl, ?hy6⟩) hS0 ?rest6
        case hy6 => (intro W hSw; go_simp; try (with_reducible rfl))
        try simp only [Act.put, List.setIfInBounds_toArray, List.set_cons_zero, List.set_cons_succ]
        refine' wpAnyD_take (i := 3) (oi := { dst := some 57, op := Go.Op.indexAddr 22 (Go.Operand.tmp 55) (Go.Operand.tmp 56), type := 0, pos := "law.go:249", after := #[{ on := 1, ground := Go.Ground.data }, { on := 2, ground := Go.Ground.data }], guard := none }) (v := _) rfl (by kernel_rfl) (by kernel_rfl) (by kernel_rfl) (fun _ _ _ h => h) (by kernel_rfl) (Or.inl ⟨by rfl, ?hy7⟩) hS0 ?rest7
        case hy7 => (intro W hSw; obtain ⟨⟨s1, s2, s3⟩, s4, s5, ⟨s6, s7, s8, s9, s10⟩⟩ := HSC.out W hSw; go_simp; try (with_reducible rfl))
        try simp only [Act.put, List.setIfInBounds_toArray, List.set_cons_zero, List.set_cons_succ]
        refine' wpAnyD_take (i := 4) (oi := { dst := some 58, op := Go.Op.fieldAddr 36 (Go.Operand.tmp 57) 0, type := 0, pos := "law.go:249", after := #[{ on := 3, ground := Go.Ground.data }], guard := none }) (v := _) rfl (by kernel_rfl) (by kernel_rfl) (by kernel_rfl) (fun _ _ _ h => h) (by kernel_rfl) (Or.inl ⟨by rfl, ?hy8⟩) hS0 ?rest8
        case hy8 => (intro W hSw; go_simp; try (with_reducible rfl))
        try simp only [Act.put, List.setIfInBounds_toArray, List.set_cons_zero, List.set_cons_succ]
        refine' wpAnyD_take (i := 5) (oi := { dst := some 59, op := Go.Op.load 25 (Go.Operand.tmp 58), type := 25, pos := "law.go:249", after := #[{ on := 4, ground := Go.Ground.data }], guard := none }) (v := _) rfl (by kernel_rfl) (by kernel_rfl) (by kernel_rfl) (fun _ _ _ h => h) (by kernel_rfl) (Or.inl ⟨by rfl, ?hy9⟩) hS0 ?rest9
        case hy9 => (intro W hSw; obtain ⟨⟨s1, s2, s3⟩, s4, s5, ⟨s6, s7, s8, s9, s10⟩⟩ := HSC.out W hSw; go_simp; try (with_reducible rfl))
        try simp only [Act.put, List.setIfInBounds_toArray, List.set_cons_zero, List.set_cons_succ]
        refine wpAnyD_one (i := 6) (o := { dst := some 60, op := Go.Op.call { callee := Go.Callee.value (Go.Operand.func 14), args := #[Go.Operand.tmp 54, Go.Operand.tmp 59], argTypes := #[25, 25] }, type := 4, pos := "law.go:249", after := #[{ on := 0, ground := Go.Ground.data }, { on := 5, ground := Go.Ground.data }], guard := none }) (by kernel_rfl) rfl (fun K hK => ?_)
        rw [if_pos (by kernel_rfl)]
        go_simp
        refine (hah _).mono ?_
        rintro e w21 ⟨rfl, g21⟩
        have hS21 : Below W10.heap.size W10 w21 := hS0.trans (g21.below.mono hS0.size)
        clear g21
        dsimp only
        refine hK.out _ _ (fun hD => hS21) ?_
        clear hK K
        try simp only [Act.put, List.setIfInBounds_toArray, List.set_cons_zero, List.set_cons_succ]
        refine' wpAnyD_take (i := 7) (oi := { dst := some 61, op := Go.Op.move (Go.Operand.tmp 60), type := 4, pos := "law.go:249", after := #[{ on := 6, ground := Go.Ground.data }, { on := 6, ground := Go.Ground.chain }], guard := none }) (v := _) rfl (by kernel_rfl) (by kernel_rfl) (by kernel_rfl) (fun _ _ _ h => h) (by kernel_rfl) (Or.inl ⟨by rfl, ?hy11⟩) hS21 ?rest11
        case hy11 => (intro W hSw; go_simp; try (with_reducible rfl))
        try simp only [Act.put, List.setIfInBounds_toArray, List.set_cons_zero, List.set_cons_succ]
        refine' wpAnyD_take (i := 8) (oi := { dst := some 62, op := Go.Op.move (Go.Operand.tmp 1), type := 26, pos := "law.go:249", after := #[{ on := 7, ground := Go.Ground.guard }], guard := some (7, false) }) (v := _) rfl (by kernel_rfl) (by kernel_rfl) (by kernel_rfl) (fun _ _ _ h => h) (by kernel_rfl) (Or.inl ⟨by rfl, ?hy12⟩) hS21 ?rest12
        case hy12 => (intro W hSw; go_simp; try (with_reducible rfl))
        try simp only [Act.put, List.setIfInBounds_toArray, List.set_cons_zero, List.set_cons_succ]
        refine' wpAnyD_take (i := 9) (oi := { dst := some 63, op := Go.Op.move (Go.Operand.tmp 9), type := 22, pos := "law.go:249", after := #[{ on := 7, ground := Go.Ground.guard }], guard := some (7, false) }) (v := _) rfl (by kernel_rfl) (by kernel_rfl) (by kernel_rfl) (fun _ _ _ h => h) (by kernel_rfl) (Or.inl ⟨by rfl, ?hy13⟩) hS21 ?rest13
        case hy13 => (intro W hSw; go_simp; try (with_reducible rfl))
        try simp only [Act.put, List.setIfInBounds_toArray, List.set_cons_zero, List.set_cons_succ]
        refine' wpAnyD_take (i := 10) (oi := { dst := some 64, op := Go.Op.move (Go.Operand.tmp 10), type := 3, pos := "law.go:249", after := #[{ on := 7, ground := Go.Ground.guard }], guard := some (7, false) }) (v := _) rfl (by kernel_rfl) (by kernel_rfl) (by kernel_rfl) (fun _ _ _ h => h) (by kernel_rfl) (Or.inl ⟨by rfl, ?hy14⟩) hS21 ?rest14
        case hy14 => (intro W hSw; go_simp; try (with_reducible rfl))
        try simp only [Act.put, List.setIfInBounds_toArray, List.set_cons_zero, List.set_cons_succ]
        refine' wpAnyD_take (i := 11) (oi := { dst := some 65, op := Go.Op.indexAddr 22 (Go.Operand.tmp 63) (Go.Operand.tmp 64), type := 0, pos := "law.go:249", after := #[{ on := 9, ground := Go.Ground.data }, { on := 10, ground := Go.Ground.data }, { on := 7, ground := Go.Ground.guard }], guard := some (7, false) }) (v := _) rfl (by kernel_rfl) (by kernel_rfl) (by kernel_rfl) (fun _ _ _ h => h) (by kernel_rfl) (Or.inl ⟨by rfl, ?hy15⟩) hS21 ?rest15
        case hy15 => (intro W hSw; obtain ⟨⟨s1, s2, s3⟩, s4, s5, ⟨s6, s7, s8, s9, s10⟩⟩ := HSC.out W hSw; go_simp; try (with_reducible rfl))
        try simp only [Act.put, List.setIfInBounds_toArray, List.set_cons_zero, List.set_cons_succ]
        refine' wpAnyD_take (i := 12) (oi := { dst := some 66, op := Go.Op.fieldAddr 36 (Go.Operand.tmp 65) 0, type := 0, pos := "law.go:249", after := #[{ on := 11, ground := Go.Ground.data }, { on := 7, ground := Go.Ground.guard }], guard := some (7, false) }) (v := _) rfl (by kernel_rfl) (by kernel_rfl) (by kernel_rfl) (fun _ _ _ h => h) (by kernel_rfl) (Or.inl ⟨by rfl, ?hy16⟩) hS21 ?rest16
        case hy16 => (intro W hSw; go_simp; try (with_reducible rfl))
        try simp only [Act.put, List.setIfInBounds_toArray, List.set_cons_zero, List.set_cons_succ]
        refine' wpAnyD_take (i := 13) (oi := { dst := some 67, op := Go.Op.load 25 (Go.Operand.tmp 66), type := 25, pos := "law.go:249", after := #[{ on := 12, ground := Go.Ground.data }, { on := 7, ground := Go.Ground.guard }], guard := some (7, false) }) (v := _) rfl (by kernel_rfl) (by kernel_rfl) (by kernel_rfl) (fun _ _ _ h => h) (by kernel_rfl) (Or.inl ⟨by rfl, ?hy17⟩) hS21 ?rest17
        case hy17 => (intro W hSw; obtain ⟨⟨s1, s2, s3⟩, s4, s5, ⟨s6, s7, s8, s9, s10⟩⟩ := HSC.out W hSw; go_simp; try (with_reducible rfl))
        try simp only [Act.put, List.setIfInBounds_toArray, List.set_cons_zero, List.set_cons_succ]
        refine wpAnyD_one (i := 14) (o := { dst := some 68, op := Go.Op.call { callee := Go.Callee.value (Go.Operand.func 15), args := #[Go.Operand.tmp 62, Go.Operand.tmp 67], argTypes := #[26, 25] }, type := 4, pos := "law.go:249", after := #[{ on := 8, ground := Go.Ground.data }, { on := 13, ground := Go.Ground.data }, { on := 7, ground := Go.Ground.chain }, { on := 7, ground := Go.Ground.guard }], guard := some (7, false) }) (by kernel_rfl) rfl (fun K hK => ?_)
        rw [if_pos (by kernel_rfl)]
        go_simp
        refine (hop _ hS21).mono ?_
        rintro e w22 ⟨rfl, g22⟩
        have hS22 : Below W10.heap.size W10 w22 := hS21.trans (g22.below.mono hS21.size)
        clear g22
        dsimp only
        refine hK.out _ _ (fun hD => hS22) ?_
        clear hK K
        try simp only [Act.put, List.setIfInBounds_toArray, List.set_cons_zero, List.set_cons_succ]
        refine wpAnyD_one (i := 15) (o := { dst := some 69, op := Go.Op.pick (Go.Operand.tmp 61) (Go.Operand.const (Go.Value.bool true)) (Go.Operand.tmp 68), type := 4, pos := "law.go:249", after := #[{ on := 7, ground := Go.Ground.data }, { on := 14, ground := Go.Ground.data }], guard := none }) (by kernel_rfl) rfl (fun K hK => ?_)
        rw [if_pos (by kernel_rfl)]
        go_simp
        refine hK.out _ _ (fun hD => hS22) ?_
        clear hK K
        try simp only [Act.put, List.setIfInBounds_toArray, List.set_cons_zero, List.set_cons_succ]
        refine wpAnyD_done (by kernel_rfl) ?_ _
        have HI2 := hid hS22
        clear hah hop HSC hS0 hS21 hS22 HI
        go_wp2_with fail
        go_roundw
        case rel => exact ⟨i + 1, hlt, by simp, HI2.out⟩
        case measure => simp [RowKit.intOf]; omega
      · have hz : ¬ ((i : Int) < (n9 : Int)) := by omega
        obtain ⟨W11, hW11⟩ : ∃ V, V = wr := ⟨_, rfl⟩
        rw [← hW11] at HI ⊢
        have hb := HI.out
        clear hi hlt HI hW11
        clear LB
        clear HE NB NA hle hlz hb9
        have BW' := hid (BW.out.trans (hb.mono BW.out.size))
        clear BW
        have BW := BW'
        clear BW'
        have PB' := hid (PB.out.below hb)
        clear PB
        have PB := PB'
        clear PB'
        clear hb
        have MO11 : Hid (Tc W11 B 0 mo ∧ B < W11.heap.size) := ⟨MO.out.1.below MO.out.2 BW.out, Nat.lt_of_lt_of_le MO.out.2 BW.out.size⟩
        have hc := r5open_any _ F mo W11 (HF.out.below BW.out) BDF.out.2.2.1
        obtain ⟨⟨q1, q2, q3⟩, q4⟩ := MO11.out
        by_cases ho : opn F mo = true
        · rw [ho] at hc
          clear ho
          go_wp2_with fail
          refine hc.mono ?_
          rintro e W12 ⟨rfl, g12⟩
          have hB12 : Below W0.heap.size W0 W12 := BW.out.trans (g12.below.mono BW.out.size)
          clear hc g12
          go_wp2
          go_ret
          exact ⟨rfl, HG0.out.below.trans (hB12.mono HG0.out.size)⟩
        · have ho' : opn F mo = false := by simpa using ho
          rw [ho'] at hc
          have HO := hid ho'
          clear ho ho'
          go_wp2_with fail
          refine hc.mono ?_
          rintro e W12 ⟨rfl, g12⟩
          have hb := g12.below
          clear hc g12 q1 q2 q3 q4
          have BW' := hid (BW.out.trans (hb.mono BW.out.size))
          clear BW
          have BW := BW'
          clear BW'
          have PB' := hid (PB.out.below hb)
          clear PB
          have PB := PB'
          clear PB'
          clear hb
          obtain ⟨⟨q1, q2, q3⟩, q4⟩ : Tc W12 B 0 mo ∧ B < W12.heap.size := ⟨MO.out.1.below MO.out.2 BW.out, Nat.lt_of_lt_of_le MO.out.2 BW.out.size⟩
          have hc := upto_any mo W12 PB.out BDL.out.1
          go_wp2_with fail
          refine hc.mono ?_
          rintro e W13 ⟨p13, n13, c13, rfl, H13⟩
          have hb := H13.out.1.2
          have LU : Hid (Ls EC W13 (.slice p13 n13 c13) ((srt L).filter fun x => bel x.t mo)) := Tld.ls H13.out.1
          have NU := hid H13.out.2
          have hb13 : n13 ≤ 5864062014806 := by rw [H13.out.2]; exact Nat.le_trans (List.length_filter_le _ _) (by rw [srt_len]; exact BDL.out.2.2.2.2)
          have HU2 := hid (fun (j : Nat) (x : Ct) => HU.out j x HO.out)
          clear hc H13 q1 q2 q3 q4 HU
          generalize ((srt L).filter fun x => bel x.t mo) = U at LU NU HU2
          have BW' := hid (BW.out.trans (hb.mono BW.out.size))
          clear BW
          have BW := BW'
          clear BW'
          have PB' := hid (PB.out.below hb)
          clear PB
          have PB := PB'
          clear PB'
          clear hb
          go_wp2_with fail
          go_loopw [12] (fun s12 wr => ∃ i : Nat, i ≤ n13 ∧ s12 = .int .i64 (i : Nat) ∧ Hid (Below W13.heap.size W13 wr)) (fun s12 _ => n13 - (RowKit.intOf s12).toNat)
          case atStart => exact ⟨0, Nat.zero_le _, rfl, Below.refl _ _⟩
          case round =>
            obtain ⟨i, hi, rfl, HI⟩ := hrel
            by_cases hlt : i < n13
            · have hz : (i : Int) < (n13 : Int) := by omega
              have hi0 : (0 : Int) ≤ (i : Int) := by omega
              obtain ⟨x, hx⟩ : ∃ x, U[i]? = some x := ⟨U[i]'(by have := NU.out; omega), by simp⟩
              have hop := r5open_any _ F x.t wr (HF.out.below (BW.out.trans (HI.out.mono BW.out.size))) BDF.out.2.2.1
              rw [HU2.out i x hx] at hop
              obtain ⟨b1, o1, q1, e1, l1, x0, x1, x2, x3, x4⟩ := atC (LU.out.below HI.out) hx
              simp only [Value.slice.injEq] at e1
              obtain ⟨rfl, -, rfl⟩ := e1
              dsimp only [Ct.t] at hop
              clear hx x3 x4
              go_wp2_with fail
              refine hop.mono ?_
              rintro e w14 ⟨rfl, g14⟩
              have HI2 : Hid (Below W13.heap.size W13 w14) := HI.out.trans (g14.below.mono HI.out.size)
              clear hop g14 x0 x1 x2 l1
              go_wp2_with fail
              go_roundw
              case rel => exact ⟨i + 1, hlt, by simp, HI2.out⟩
              case measure => simp [RowKit.intOf]; omega
            · have hz : ¬ ((i : Int) < (n13 : Int)) := by omega
              have hB : Below W0.heap.size W0 wr := BW.out.trans (HI.out.mono BW.out.size)
              go_wp2
              go_ret
              exact ⟨rfl, HG0.out.below.trans (hB.mono HG0.out.size)⟩
theorem probeFronts_all {v u : Value} {L : List Ct} {F : List T3} (mo : T3) (w : World) (hL : Ls EC w v L) (hF : Ls ET w u F) (hnb : L.length * 40 ≤ 140737488351232) (hmb : F.length * 24 ≤ 140737488351232) :
    Calls Try.prog 4 #[v, u, tv mo] w fun e w' => e = .returned (.bool true) ∧ Below w.heap.size w w' := by
  obtain ⟨p, c, rfl⟩ := hL.form
  obtain ⟨q, d, rfl⟩ := hF.form
  exact probeFronts_any mo w hL rfl hF rfl hnb hmb
end Go.Proofs.Ytghpekkncfckaaa.Ca
