import Derived.Test.YtnpmmodcmfgbjaaGreatMPur
namespace Go.Proofs.YtnpmmodcmfgbjaaGreat
open Go.RowKit Go.Sort Go.Maps
open Tt (Tl byd byd_f byd_t)
attribute [local go_sem ↓] Go.wp_at_zero Go.wp_at_succ

theorem nlt {a b : Nat} (h1 : a ≤ b) (h2 : b < a) : False := Nat.lt_irrefl _ (Nat.lt_of_le_of_lt h1 h2)
set_option maxHeartbeats 1000000 in
set_option maxRecDepth 100000 in
theorem apply_any {mb tb b cb n : Nat} {v : Value} {f : Tm → Int} {fr : List Tm} (ds : List Dl) (u : Value) (w : World) (h : Mu w mb tb b cb n v f fr) (hF : IsFr f fr) (hu : Ls ED w u ds) (hbig : n + 2 * ds.length + 1 ≤ 2199023255552) :
    Calls Tryz.prog 21 #[.pointer (some ⟨mb, 0, none⟩), u] w fun e w' =>
      (bad f ds = true ∧ e = .returned (.tuple #[.slice none 0 0, .int .i64 12]) ∧ Below w.heap.size w w') ∨
      (bad f ds = false ∧ ∃ (vo v' : Value) (fr' : List Tm), IsFr (newc f ds) fr' ∧ e = .returned (.tuple #[vo, .int .i64 0]) ∧ w'.ownsRow w.heap.size 54 4 vo (dlt fr fr').length (fl ED (dlt fr fr')) ∧ Mu w' mb tb b cb (n + 2 * ds.length) v' (newc f ds) fr' ∧
        Kp (fun k => k = b ∨ k = cb ∨ v.ownBlock = some k) w w' ∧ (∀ g, v'.ownBlock = some g → v.ownBlock = some g ∨ w.heap.size ≤ g) ∧ ∀ g, v'.ownBlock = some g → vo.ownBlock ≠ some g) := by
  obtain ⟨pu, cu, rfl⟩ := hu.form
  have hbe := behind_any ds _ w h.tl hu (Nat.le_trans (Nat.mul_le_mul_right 32 (show ds.length ≤ 2199023255552 by omega)) (by decide))
  have hfn := hF.le h.tl.ta
  have A0 : ∀ {k c : Nat}, k ≤ 2199023255552 → c ≤ 64 → k * c ≤ 140737488355328 := fun {k c} hk hc => Nat.le_trans (Nat.mul_le_mul hk hc) (by decide)
  have A1 : fr.length * 24 ≤ 140737488355328 := A0 (by omega) (by decide)
  have A2 : ∀ k, k ≤ ds.length → n + 2 * k < 4611686018427387904 := fun k hk => by omega
  have A4 : ∀ k, k ≤ ds.length → (fr.length + k + (n + 2 * ds.length) + 1) * 24 ≤ 140737488355328 := fun k hk => Nat.le_trans (Nat.mul_le_mul_right 24 (show fr.length + k + (n + 2 * ds.length) + 1 ≤ 4398046511104 by omega)) (by decide)
  have A5 : ∀ k, k ≤ n + 2 * ds.length → k * 24 ≤ 140737488355328 := fun k hk => A0 (by omega) (by decide)
  have A6 : ∀ k, k ≤ n + 2 * ds.length → (fr.length + k) * 32 ≤ 140737488355328 := fun k hk => Nat.le_trans (Nat.mul_le_mul_right 32 (show fr.length + k ≤ 4398046511104 by omega)) (by decide)
  clear A0
  have HM : Hid (Mu w mb tb b cb n v f fr) := h
  have HF : Hid (IsFr f fr) := hF
  have m0 := h.c0
  have m1 := h.c1
  have hml := h.lt
  obtain ⟨a1, a2, a3, a4, a5, a6, a7, a8⟩ := h.apart
  clear h hF hu hbig hfn
  go_enter Tryz.func21, Tryz.ntmps21
  go_wp2_with fail
  refine hbe.mono ?_
  rintro e w1 ⟨hb1, ⟨hbad, rfl⟩ | ⟨hbad, ks, v1, hks, rfl, ho1⟩⟩
  · go_wp2
    go_ret2
    exact Or.inl ⟨hbad, rfl, hb1⟩
  · have HM1 : Hid (Mu w1 mb tb b cb n v f fr) := HM.out.below hb1
    have hli := Cn.list_any w1 HM1.out.ch A1
    have k1 := HM1.out.c1
    have k0 := HM1.out.c0
    have hml1 := HM1.out.lt
    have hkl : ks.length ≤ ds.length := by
      have := length_le_of_sub (m := ds.map Prod.fst) hks.1 (fun x hx => (hks.2 x).1 hx)
      simpa using this
    have HO1 : Hid (w1.ownsRow w.heap.size 54 4 v1 ks.length (fl ED (ks.map fun t => (t, newc f ds t)))) := ho1
    have HKS : Hid (∀ t, t ∈ ks ↔ t ∈ ds.map Prod.fst) := hks.2
    have HB1 : Hid (Below w.heap.size w w1) := hb1
    have HBAD : Hid (bad f ds = false) := hbad
    clear hbe ho1 hks hb1 m0 m1
    go_wp2_with fail
    refine hli.mono ?_
    rintro e w2 ⟨v2, rfl, ho2, hb2⟩
    have HM2 : Hid (Mu w2 mb tb b cb n v f fr) := HM1.out.below hb2
    have HO2 : Hid (w2.ownsRow w1.heap.size 37 3 v2 fr.length (flT fr)) := ho2
    have HO1b : Hid (w2.ownsRow w.heap.size 54 4 v1 ks.length (fl ED (ks.map fun t => (t, newc f ds t)))) := owns_below HO1.out hb2
    have HL1 : Hid (Ls ED w2 v1 (ks.map fun t => (t, newc f ds t))) := owns_ls (E := ED) (ts := ks.map fun t => (t, newc f ds t)) (by rw [List.length_map]; exact HO1b.out)
    have hnb : ∀ k, v1.ownBlock = some k → w.heap.size ≤ k := fun k hk => (HO1.out.lt k hk).1
    have hbw : b < w.heap.size := HM.out.tl.ta.lt
    have hcw : cb < w.heap.size := HM.out.ch.lt
    have hvw : ∀ k, v.ownBlock = some k → k < w.heap.size := HM.out.ch.row
    have hset := mset_any (ks.map fun t => (t, newc f ds t)) v1 w2 HM2.out.tl HL1.out (fun e => nlt (hnb _ e) hbw) (fun d hd => by
      obtain ⟨t, ht, rfl⟩ := List.mem_map.1 hd
      obtain ⟨d', hd', rfl⟩ := List.mem_map.1 ((HKS.out t).1 ht)
      have h1 := HBAD.out
      unfold bad at h1
      rw [Bool.or_eq_false_iff, List.any_eq_false, List.any_eq_false] at h1
      simpa using h1.2 d' hd') (by rw [List.length_map]; exact A2 _ hkl)
    rw [setl_newc HM.out.tl.bd HKS.out, List.length_map] at hset
    have k1 := HM2.out.c1
    have k0 := HM2.out.c0
    have hml2 := HM2.out.lt
    have HB2 : Hid (Below w1.heap.size w1 w2) := hb2
    clear hli ho2 hb2
    go_wp2_with fail
    refine hset.mono ?_
    rintro e w3 ⟨rfl, ht3, hk3⟩
    have HT3 : Hid (Tl w3 tb b fC (n + 2 * ds.length) (newc f ds)) := ⟨ht3.blk, ht3.ta.mono (Nat.add_le_add_left (Nat.mul_le_mul_left 2 hkl) n), ht3.bd⟩
    have HM3 : Hid (Mu w3 mb tb b cb (n + 2 * ds.length) v (newc f ds) fr) := ⟨(hk3.block mb HM2.out.lt a2).trans HM2.out.blk, HT3.out, HM2.out.ch.kp hk3 (fun e => a5 e.symm) (fun k hk e => a8 (e ▸ hk))⟩
    have HK3 : Hid (Kp (fun k => k = b) w2 w3) := hk3
    have HL3 : Hid (Ls ED w3 v1 (ks.map fun t => (t, newc f ds t))) := hk3.ls HL1.out (fun k hk e => nlt (hnb _ hk) (by rw [e]; exact hbw))
    have HO3 : Hid (w3.ownsRow w1.heap.size 37 3 v2 fr.length (flT fr)) := owns_kp hk3 HO2.out (fun k hk e => nlt (Nat.le_trans HB1.out.size (HO2.out.lt k hk).1) (by rw [e]; exact hbw))
    have hre := renew_any (ks.map fun t => (t, newc f ds t)) v1 w3 HM3.out HL3.out (fun k hk => ⟨fun e => nlt (hnb _ hk) (by rw [e]; exact hcw), fun e => nlt (hnb _ hk) (hvw _ e)⟩) (by rw [List.length_map]; exact A4 _ hkl)
    clear hset hk3 ht3
    go_wp2_with fail
    refine hre.mono ?_
    rintro e w4 ⟨rfl, v4, fr', hrn, hm4, ht4⟩
    have HF4 : Hid (IsFr (newc f ds) fr') := HF.out.renew hrn (fun t ht => by
      by_cases hx : t ∈ ds.map Prod.fst
      · exact ⟨(t, newc f ds t), List.mem_map.2 ⟨t, (HKS.out t).2 hx, rfl⟩, rfl⟩
      · exact absurd (newc_other (HM.out.tl.bd t) hx) ht) (fun d hd => by
      obtain ⟨t, _, rfl⟩ := List.mem_map.1 hd
      rfl)
    have HM4 : Hid (Mu w4 mb tb b cb (n + 2 * ds.length) v4 (newc f ds) fr') := hm4
    have HT4 : Hid (Cn.Turn cb v v4 w3 w4) := ht4
    have HO4 : Hid (w4.ownsRow w1.heap.size 37 3 v2 fr.length (flT fr)) := owns_kp ht4.1 HO3.out (fun k hk e => by
      have h1 := (HO3.out.lt k hk).1
      have h2 := HB1.out.size
      rcases e with e | e
      · exact nlt (Nat.le_trans h2 h1) (by rw [e]; exact hcw)
      · exact nlt (Nat.le_trans h2 h1) (hvw _ e))
    have hfn4 := HF4.out.le hm4.tl.ta
    have hli4 := Cn.list_any w4 hm4.ch (A5 _ hfn4)
    have k1 := hm4.c1
    have k0 := hm4.c0
    have hml4 := hm4.lt
    clear hre hrn hm4 ht4
    go_wp2_with fail
    refine hli4.mono ?_
    rintro e w5 ⟨v5, rfl, ho5, hb5⟩
    have hbt := between_any v2 v5 fr fr' w5 (owns_below HO4.out hb5) ho5 (A6 _ hfn4) HF.out.sorted HF4.out.sorted
    have HM5 : Hid (Mu w5 mb tb b cb (n + 2 * ds.length) v4 (newc f ds) fr') := HM4.out.below hb5
    clear hli4 ho5
    go_wp2_with fail
    refine hbt.mono ?_
    rintro e w6 ⟨v6, rfl, ho6, hb6⟩
    have z1 := HB1.out.size
    have z2 := HB2.out.size
    have z3 := HK3.out.size
    have z4 := HT4.out.1.size
    have z5 := hb5.size
    go_wp2
    go_ret2
    refine Or.inr ⟨HBAD.out, v6, v4, fr', HF4.out, rfl, owns_base ho6 (Nat.le_trans z1 (Nat.le_trans z2 (Nat.le_trans z3 (Nat.le_trans z4 z5)))), HM5.out.below hb6, ?_, fun g hg => ?_, fun g hg e => ?_⟩
    · refine (((((Kp.of_below HB1.out).trans (Kp.of_below (S := fun _ => False) HB2.out) (fun _ _ h => h.elim)).trans HK3.out (fun j _ h => Or.inl h)).trans HT4.out.1 (fun j _ h => Or.inr h)).trans (Kp.of_below (S := fun _ => False) hb5) (fun _ _ h => h.elim)).trans (Kp.of_below (S := fun _ => False) hb6) (fun _ _ h => h.elim)
    · rcases HT4.out.2 g hg with h1 | h1
      · exact Or.inl h1
      · exact Or.inr (Nat.le_trans z1 (Nat.le_trans z2 (Nat.le_trans z3 h1)))
    · have h1 := (ho6.lt g e).1
      exact nlt h1 (HM5.out.ch.row g hg)
theorem apply_nil (u : Value) (w : World) : Calls Tryz.prog 21 #[.pointer none, u] w fun e w' => e = .returned (.tuple #[.slice none 0 0, .int .i64 0]) ∧ w' = w := by
  go_enter Tryz.func21, Tryz.ntmps21
  go_wp2
  go_ret2
  exact ⟨rfl, rfl⟩
end Go.Proofs.YtnpmmodcmfgbjaaGreat
