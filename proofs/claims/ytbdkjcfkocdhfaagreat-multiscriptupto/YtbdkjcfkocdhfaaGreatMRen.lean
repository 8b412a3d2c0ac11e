import Derived.Test.YtbdkjcfkocdhfaaGreatMDelF
namespace Go.Proofs.YtbdkjcfkocdhfaaGreat
open Go.RowKit Go.Sort Go.Maps
open Tt (Tl byd byd_f byd_t)
attribute [local go_sem ↓] Go.wp_at_zero Go.wp_at_succ

abbrev fA : Nat := 34
abbrev fN : Nat := 30
abbrev fC : Nat := 31
/-- A Multi: its block, its tally, its chain. -/
structure Mu (w : World) (mb tb b cb n : Nat) (v : Value) (f : Tm → Int) (fr : List Tm) : Prop where
  blk : w.heap[mb]? = some (.cells #[.pointer (some ⟨tb, 0, none⟩), .pointer (some ⟨cb, 0, none⟩)] 69 (0, 0))
  tl : Tl w tb b fC n f
  ch : Cn.Ch w cb fA fN v fr
section
variable {w w' : World} {mb tb b cb n : Nat} {v : Value} {f : Tm → Int} {fr : List Tm}
theorem Mu.lt (h : Mu w mb tb b cb n v f fr) : mb < w.heap.size := (Array.getElem?_eq_some_iff.1 h.blk).1
theorem Mu.c0 (h : Mu w mb tb b cb n v f fr) : w.cell? ⟨mb, 0, none⟩ = some (.pointer (some ⟨tb, 0, none⟩)) := by simp [World.cell?, h.blk]
theorem Mu.c1 (h : Mu w mb tb b cb n v f fr) : w.cell? ⟨mb, 1, none⟩ = some (.pointer (some ⟨cb, 0, none⟩)) := by simp [World.cell?, h.blk]
theorem Mu.row (h : Mu w mb tb b cb n v f fr) {g : Nat} (hg : v.ownBlock = some g) : ∃ cur, w.heap[g]? = some (.cells cur 32 (0, 0)) := by
  obtain ⟨_, ⟨h0, _⟩ | ⟨g', cap, cur, hv, _, hh, _⟩⟩ := h.ch.own
  · rw [h0] at hg; cases hg
  · rw [hv] at hg
    simp only [Value.ownBlock, Option.some.injEq] at hg
    subst hg
    exact ⟨cur, hh⟩
/-- The blocks of a Multi are unlike each other. -/
theorem Mu.apart (h : Mu w mb tb b cb n v f fr) : mb ≠ tb ∧ mb ≠ b ∧ mb ≠ cb ∧ tb ≠ cb ∧ b ≠ cb ∧ v.ownBlock ≠ some mb ∧ v.ownBlock ≠ some tb ∧ v.ownBlock ≠ some b := by
  have h1 := h.blk
  have h2 := h.tl.blk
  have h3 := h.ch.blk
  obtain ⟨D, ⟨es, clock, h4, _⟩, _⟩ := h.tl.ta
  refine ⟨fun e => ?_, fun e => ?_, fun e => ?_, fun e => ?_, fun e => ?_, fun e => ?_, fun e => ?_, fun e => ?_⟩
  · rw [e, h2] at h1; simp at h1
  · rw [e, h4] at h1; simp at h1
  · rw [e, h3] at h1; simp at h1
  · rw [e, h3] at h2; simp at h2
  · rw [e, h3] at h4; simp at h4
  · obtain ⟨cur, hc⟩ := h.row e; rw [hc] at h1; simp at h1
  · obtain ⟨cur, hc⟩ := h.row e; rw [hc] at h2; simp at h2
  · obtain ⟨cur, hc⟩ := h.row e; rw [hc] at h4; simp at h4
theorem Mu.kp {T : Nat → Prop} (h : Mu w mb tb b cb n v f fr) (hk : Kp T w w') (h1 : ¬ T mb) (h2 : ¬ T tb) (h3 : ¬ T b) (h4 : ¬ T cb) (h5 : ∀ k, v.ownBlock = some k → ¬ T k) : Mu w' mb tb b cb n v f fr :=
  ⟨(hk.block mb h.lt h1).trans h.blk, h.tl.kp hk h2 h3, h.ch.kp hk h4 h5⟩
theorem Mu.below (h : Mu w mb tb b cb n v f fr) (hb : Below w.heap.size w w') : Mu w' mb tb b cb n v f fr := h.kp (T := fun _ => False) (Kp.of_below hb) (fun h => h) (fun h => h) (fun h => h) (fun h => h) (fun _ _ h => h)
theorem Mu.turn {v' : Value} {fr' : List Tm} (h : Mu w mb tb b cb n v f fr) (ht : Cn.Turn cb v v' w w') (hc : Cn.Ch w' cb fA fN v' fr') : Mu w' mb tb b cb n v' f fr' := by
  obtain ⟨a1, a2, a3, a4, a5, a6, a7, a8⟩ := h.apart
  exact ⟨(ht.1.block mb h.lt (fun e => e.elim a3 a6)).trans h.blk, h.tl.kp ht.1 (fun e => e.elim a4 a7) (fun e => e.elim a5 a8), hc⟩
end

/-- What the front becomes. -/
def Rnw (f : Tm → Int) (fr : List Tm) (us : List Dl) (fr' : List Tm) : Prop :=
  ((fr.any fun t => decide (f t ≤ 0)) = true ∧ ∃ ks, Sup f ks ∧ fr' = cjoin bel tol [] ((stT ks).filter fun t => !decide (f t ≤ 0))) ∨
  ((fr.any fun t => decide (f t ≤ 0)) = false ∧ fr' = cjoin bel tol fr ((us.filter fun d => decide (0 < d.2)).map Prod.fst))

set_option maxHeartbeats 1000000 in
set_option maxRecDepth 100000 in
theorem renew_any {mb tb b cb n : Nat} {v : Value} {f : Tm → Int} {fr : List Tm} (us : List Dl) (u : Value) (w : World) (h : Mu w mb tb b cb n v f fr) (hu : Ls ED w u us) (hap : ∀ k, u.ownBlock = some k → k ≠ cb ∧ v.ownBlock ≠ some k)
    (hn : n * 24 ≤ 140737488355328) (hl : (fr.length + us.length + 1) * 24 ≤ 140737488355328) :
    Calls Tryz.prog 39 #[.pointer (some ⟨mb, 0, none⟩), u] w fun e w' => e = .returned (.tuple #[]) ∧ ∃ v' fr', Rnw f fr us fr' ∧ Mu w' mb tb b cb n v' f fr' ∧ Cn.Turn cb v v' w w' := by
  have hmx : Tryz.prog.follows .mixedOrders = true := by kernel_rfl
  obtain ⟨pu, cu, rfl⟩ := hu.form
  obtain ⟨W1, hW1⟩ : ∃ W1, W1 = w.alloc (.cells #[.pointer (some ⟨mb, 0, none⟩)] 23) := ⟨_, rfl⟩
  obtain ⟨B0, hB0⟩ : ∃ B0, B0 = w.heap.size := ⟨_, rfl⟩
  have G1 : Gr w W1 := by rw [hW1]; exact (Gr.refl _).alloc _
  have HM : Hid (Mu w mb tb b cb n v f fr) := h
  have HG1 : Hid (Gr w W1) := G1
  have HU : Hid (Ls ED w (.slice pu us.length cu) us) := hu
  have HAP : Hid (∀ k, (Value.slice pu us.length cu).ownBlock = some k → k ≠ cb ∧ v.ownBlock ≠ some k) := hap
  obtain ⟨a1, a2, a3, a4, a5, a6, a7, a8⟩ := h.apart
  have hcl : cb < w.heap.size := h.ch.lt
  have hmbl : mb < w.heap.size := h.lt
  have m0 := h.c0
  have m1 := h.c1
  have HVR : Hid (∀ k, v.ownBlock = some k → k < w.heap.size) := h.ch.row
  have S1 : (W1.cell? ⟨B0, 0, none⟩ = some (.pointer (some ⟨mb, 0, none⟩)) ∧ W1.cell? ⟨mb, 0, none⟩ = some (.pointer (some ⟨tb, 0, none⟩)) ∧ W1.cell? ⟨mb, 1, none⟩ = some (.pointer (some ⟨cb, 0, none⟩)) ∧ B0 < W1.heap.size ∧ mb < W1.heap.size) := by
    refine ⟨?_, (G1.cell h.lt).trans h.c0, (G1.cell h.lt).trans h.c1, ?_, Nat.lt_of_lt_of_le h.lt G1.size⟩
    · rw [hW1, hB0]; simp
    · rw [hW1, hB0]; simp
  have HM1 : Hid (Mu W1 mb tb b cb n v f fr) := h.below G1.below
  have keepK : ∀ (T : Nat → Prop) (W W' : World), (W.cell? ⟨B0, 0, none⟩ = some (.pointer (some ⟨mb, 0, none⟩)) ∧ W.cell? ⟨mb, 0, none⟩ = some (.pointer (some ⟨tb, 0, none⟩)) ∧ W.cell? ⟨mb, 1, none⟩ = some (.pointer (some ⟨cb, 0, none⟩)) ∧ B0 < W.heap.size ∧ mb < W.heap.size) → Kp T W W' → ¬ T B0 → ¬ T mb → (W'.cell? ⟨B0, 0, none⟩ = some (.pointer (some ⟨mb, 0, none⟩)) ∧ W'.cell? ⟨mb, 0, none⟩ = some (.pointer (some ⟨tb, 0, none⟩)) ∧ W'.cell? ⟨mb, 1, none⟩ = some (.pointer (some ⟨cb, 0, none⟩)) ∧ B0 < W'.heap.size ∧ mb < W'.heap.size) := fun T W W' h hg n1 n2 =>
    ⟨(hg.cell h.2.2.2.1 n1).trans h.1, (hg.cell h.2.2.2.2 n2).trans h.2.1, (hg.cell h.2.2.2.2 n2).trans h.2.2.1, Nat.lt_of_lt_of_le h.2.2.2.1 hg.size, Nat.lt_of_lt_of_le h.2.2.2.2 hg.size⟩
  have HKK : Hid (∀ (T : Nat → Prop) (W W' : World), (W.cell? ⟨B0, 0, none⟩ = some (.pointer (some ⟨mb, 0, none⟩)) ∧ W.cell? ⟨mb, 0, none⟩ = some (.pointer (some ⟨tb, 0, none⟩)) ∧ W.cell? ⟨mb, 1, none⟩ = some (.pointer (some ⟨cb, 0, none⟩)) ∧ B0 < W.heap.size ∧ mb < W.heap.size) → Kp T W W' → ¬ T B0 → ¬ T mb → (W'.cell? ⟨B0, 0, none⟩ = some (.pointer (some ⟨mb, 0, none⟩)) ∧ W'.cell? ⟨mb, 0, none⟩ = some (.pointer (some ⟨tb, 0, none⟩)) ∧ W'.cell? ⟨mb, 1, none⟩ = some (.pointer (some ⟨cb, 0, none⟩)) ∧ B0 < W'.heap.size ∧ mb < W'.heap.size)) := keepK
  have hli := Cn.list_any W1 HM1.out.ch (by omega)
  have eg : ∀ args w, (callFunc 58 args).run Tryz.prog w = .ok (.enter 58 args) w := enters_of Tryz.func58 (by kernel_rfl) rfl
  have hgone : ∀ (W : World) (x : Tm), (W.cell? ⟨B0, 0, none⟩ = some (.pointer (some ⟨mb, 0, none⟩)) ∧ W.cell? ⟨mb, 0, none⟩ = some (.pointer (some ⟨tb, 0, none⟩)) ∧ W.cell? ⟨mb, 1, none⟩ = some (.pointer (some ⟨cb, 0, none⟩)) ∧ B0 < W.heap.size ∧ mb < W.heap.size) → Tl W tb b fC n f → Calls Tryz.prog 58 (#[tv x] ++ #[.pointer (some ⟨B0, 0, none⟩)]) W fun e w' => e = .returned (.bool (decide (f x ≤ 0))) ∧ Gr W w' := fun W x hs ht => gone_any x W hs.1 hs.2.1 hs.2.2.2.1 hs.2.2.2.2 ht
  have HGO : Hid (∀ (W : World) (x : Tm), (W.cell? ⟨B0, 0, none⟩ = some (.pointer (some ⟨mb, 0, none⟩)) ∧ W.cell? ⟨mb, 0, none⟩ = some (.pointer (some ⟨tb, 0, none⟩)) ∧ W.cell? ⟨mb, 1, none⟩ = some (.pointer (some ⟨cb, 0, none⟩)) ∧ B0 < W.heap.size ∧ mb < W.heap.size) → Tl W tb b fC n f → Calls Tryz.prog 58 (#[tv x] ++ #[.pointer (some ⟨B0, 0, none⟩)]) W fun e w' => e = .returned (.bool (decide (f x ≤ 0))) ∧ Gr W w') := hgone
  clear h hu hap hgone keepK
  go_enter Tryz.func39, Tryz.ntmps39
  have HS1 : Hid (W1.cell? ⟨B0, 0, none⟩ = some (.pointer (some ⟨mb, 0, none⟩)) ∧ W1.cell? ⟨mb, 0, none⟩ = some (.pointer (some ⟨tb, 0, none⟩)) ∧ W1.cell? ⟨mb, 1, none⟩ = some (.pointer (some ⟨cb, 0, none⟩)) ∧ B0 < W1.heap.size ∧ mb < W1.heap.size) := S1
  clear S1
  go_wp2_with fail
  rw [← hW1]
  refine hli.mono ?_
  rintro e w2 ⟨v2, rfl, ho2, hb2⟩
  have S2 : (w2.cell? ⟨B0, 0, none⟩ = some (.pointer (some ⟨mb, 0, none⟩)) ∧ w2.cell? ⟨mb, 0, none⟩ = some (.pointer (some ⟨tb, 0, none⟩)) ∧ w2.cell? ⟨mb, 1, none⟩ = some (.pointer (some ⟨cb, 0, none⟩)) ∧ B0 < w2.heap.size ∧ mb < w2.heap.size) := HKK.out (fun _ => False) _ _ HS1.out (Kp.of_below hb2) (fun h => h) (fun h => h)
  have HS2 : Hid (w2.cell? ⟨B0, 0, none⟩ = some (.pointer (some ⟨mb, 0, none⟩)) ∧ w2.cell? ⟨mb, 0, none⟩ = some (.pointer (some ⟨tb, 0, none⟩)) ∧ w2.cell? ⟨mb, 1, none⟩ = some (.pointer (some ⟨cb, 0, none⟩)) ∧ B0 < w2.heap.size ∧ mb < w2.heap.size) := S2
  have HM2 : Hid (Mu w2 mb tb b cb n v f fr) := HM1.out.below hb2
  have hcf := Cn.containsFunc_any v2 fr 58 #[.pointer (some ⟨B0, 0, none⟩)] (fun x => decide (f x ≤ 0)) w2 (owns_lst ho2) (by unfold maxLen; omega) eg (fun W x hg => HGO.out W x (HKK.out (fun _ => False) _ _ HS2.out (Kp.of_gr hg) (fun h => h) (fun h => h)) (HM2.out.tl.gr hg))
  have B2 : Hid (Below w.heap.size w w2) := HG1.out.below.trans (hb2.mono HG1.out.size)
  have hBw : w.heap.size ≤ B0 := by omega
  have hBc : B0 ≠ cb := by omega
  clear hli ho2 m0 m1 hW1
  rw [← hB0]
  clear hB0
  obtain ⟨s1, s2, s3, s4, s5⟩ := S2
  cases hq : (fr.any fun t => decide (f t ≤ 0)) with
  | true =>
    rw [hq] at hcf
    go_wp2_with fail
    refine hcf.mono ?_
    rintro e w3 ⟨rfl, hg3⟩
    have HM3 : Hid (Mu w3 mb tb b cb n v f fr) := HM2.out.below hg3.below
    have HS3 : Hid (w3.cell? ⟨B0, 0, none⟩ = some (.pointer (some ⟨mb, 0, none⟩)) ∧ w3.cell? ⟨mb, 0, none⟩ = some (.pointer (some ⟨tb, 0, none⟩)) ∧ w3.cell? ⟨mb, 1, none⟩ = some (.pointer (some ⟨cb, 0, none⟩)) ∧ B0 < w3.heap.size ∧ mb < w3.heap.size) := HKK.out (fun _ => False) _ _ HS2.out (Kp.of_gr hg3) (fun h => h) (fun h => h)
    have B3 : Hid (Below w.heap.size w w3) := B2.out.trans (hg3.below.mono B2.out.size)
    have hcr := Cn.clear_any w3 HM3.out.ch
    obtain ⟨s1, s2, s3, s4, s5⟩ := HS3.out
    clear hcf hg3
    go_wp2_with fail
    refine hcr.mono ?_
    rintro e w4 ⟨rfl, hch4, hk4⟩
    have S4 : (w4.cell? ⟨B0, 0, none⟩ = some (.pointer (some ⟨mb, 0, none⟩)) ∧ w4.cell? ⟨mb, 0, none⟩ = some (.pointer (some ⟨tb, 0, none⟩)) ∧ w4.cell? ⟨mb, 1, none⟩ = some (.pointer (some ⟨cb, 0, none⟩)) ∧ B0 < w4.heap.size ∧ mb < w4.heap.size) := HKK.out _ _ _ HS3.out hk4 (by omega) a3
    have HC4 : Hid (Cn.Ch w4.drew cb fA fN (.slice none 0 0) []) := hch4.below (Gr.refl _).drew.below
    have K4 : Hid (Kp (fun k => k = cb) w w4.drew) := ((Kp.of_below B3.out).trans hk4 (fun _ _ h => h)).trans (Kp.of_gr (S := fun k => k = cb) (Gr.refl _).drew) (fun _ _ h => h)
    have T4 : Hid (Tl w4.drew tb b fC n f) := (HM3.out.tl.kp hk4 a4 a5).gr (Gr.refl _).drew
    have hB4 : Hid (B0 < w4.drew.heap.size ∧ mb < w4.drew.heap.size ∧ cb < w4.drew.heap.size) := ⟨S4.2.2.2.1, S4.2.2.2.2, Nat.lt_of_lt_of_le hcl K4.out.size⟩
    have S4d : (w4.drew.cell? ⟨B0, 0, none⟩ = some (.pointer (some ⟨mb, 0, none⟩)) ∧ w4.drew.cell? ⟨mb, 0, none⟩ = some (.pointer (some ⟨tb, 0, none⟩)) ∧ w4.drew.cell? ⟨mb, 1, none⟩ = some (.pointer (some ⟨cb, 0, none⟩)) ∧ B0 < w4.drew.heap.size ∧ mb < w4.drew.heap.size) := S4
    have htm := mtimes_any w4.drew T4.out hn
    have hdl : ∀ (ks : List Tm) (g5 c5 : Nat) (w5 : World), w5.ownsRow w4.drew.heap.size 32 3 (.slice (some ⟨g5, 0, none⟩) (stT ks).length c5) (stT ks).length (flT (stT ks)) → Below w4.drew.heap.size w4.drew w5 → Sup f ks → _ := fun ks g5 c5 w5 ho hb hS =>
      deleteFunc_any g5 c5 (stT ks) 58 #[.pointer (some ⟨B0, 0, none⟩)] (fun x => decide (f x ≤ 0)) w5 ho (by
        have hle : ks.length ≤ n := by
          obtain ⟨D, hown, _, h3⟩ := T4.out.ta
          obtain ⟨ks', hk', hl'⟩ := owns_sup hown h3
          have := (hS.perm hk').length_eq
          have := hown.size_le
          omega
        rw [srtBy_length]; omega) eg (fun W x hk => by
          have hg5 : w4.drew.heap.size ≤ g5 := (ho.lt g5 rfl).1
          have h1 := hB4.out
          have hs5 := HKK.out (fun _ => False) _ _ S4d (Kp.of_below hb) (fun h => h) (fun h => h)
          have ht5 := T4.out.below hb
          have ht4 := T4.out
          exact HGO.out W x (HKK.out _ _ _ hs5 hk (by omega) (by omega)) (ht5.kp hk (by have := ht4.lt; omega) (by have := ht4.ta.lt; omega)))
    have hjn : ∀ (ks : List Tm) (g5 c6 : Nat) (w5 w6 : World), w4.drew.heap.size ≤ g5 → Below w4.drew.heap.size w4.drew w5 → Kp (fun k => k = g5) w5 w6 → w6.ownsRow 0 32 3 (.slice (some ⟨g5, 0, none⟩) ((stT ks).filter fun x => !decide (f x ≤ 0)).length c6) ((stT ks).filter fun x => !decide (f x ≤ 0)).length (flT ((stT ks).filter fun x => !decide (f x ≤ 0))) → Sup f ks → _ := fun ks g5 c6 w5 w6 hg hb hk ho hS =>
      Cn.join_any w6 ((HC4.out.below hb).kp hk (by have := hB4.out; omega) (fun k hk => by simp [Value.ownBlock] at hk)) (owns_lst ho) (fun k hk => by
        have : k = g5 := by simpa [Value.ownBlock] using hk.symm
        have := hB4.out
        exact ⟨by omega, by simp [Value.ownBlock]⟩) (by
        have hle : ks.length ≤ n := by
          obtain ⟨D, hown, _, h3⟩ := T4.out.ta
          obtain ⟨ks', hk', hl'⟩ := owns_sup hown h3
          have := (hS.perm hk').length_eq
          have := hown.size_le
          omega
        have h1 := List.length_filter_le (fun x => !decide (f x ≤ 0)) (stT ks)
        rw [srtBy_length] at h1
        simp only [List.length_nil]; omega) ahead_ok told_ok
    obtain ⟨s1, s2, s3, s4, s5⟩ := S4
    have hkb : ∀ W W' : World, (W.cell? ⟨B0, 0, none⟩ = some (.pointer (some ⟨mb, 0, none⟩)) ∧ W.cell? ⟨mb, 0, none⟩ = some (.pointer (some ⟨tb, 0, none⟩)) ∧ W.cell? ⟨mb, 1, none⟩ = some (.pointer (some ⟨cb, 0, none⟩)) ∧ B0 < W.heap.size ∧ mb < W.heap.size) → Below W.heap.size W W' → (W'.cell? ⟨B0, 0, none⟩ = some (.pointer (some ⟨mb, 0, none⟩)) ∧ W'.cell? ⟨mb, 0, none⟩ = some (.pointer (some ⟨tb, 0, none⟩)) ∧ W'.cell? ⟨mb, 1, none⟩ = some (.pointer (some ⟨cb, 0, none⟩)) ∧ B0 < W'.heap.size ∧ mb < W'.heap.size) := fun W W' h hb => HKK.out (fun _ => False) _ _ h (Kp.of_below hb) (fun h => h) (fun h => h)
    have hkg : ∀ (g5 : Nat) (W W' : World), (W.cell? ⟨B0, 0, none⟩ = some (.pointer (some ⟨mb, 0, none⟩)) ∧ W.cell? ⟨mb, 0, none⟩ = some (.pointer (some ⟨tb, 0, none⟩)) ∧ W.cell? ⟨mb, 1, none⟩ = some (.pointer (some ⟨cb, 0, none⟩)) ∧ B0 < W.heap.size ∧ mb < W.heap.size) → Kp (fun k => k = g5) W W' → w4.drew.heap.size ≤ g5 → (W'.cell? ⟨B0, 0, none⟩ = some (.pointer (some ⟨mb, 0, none⟩)) ∧ W'.cell? ⟨mb, 0, none⟩ = some (.pointer (some ⟨tb, 0, none⟩)) ∧ W'.cell? ⟨mb, 1, none⟩ = some (.pointer (some ⟨cb, 0, none⟩)) ∧ B0 < W'.heap.size ∧ mb < W'.heap.size) := fun g5 W W' h hk hg => HKK.out _ _ _ h hk (by have := hB4.out; omega) (by have := hB4.out; omega)
    have hkt : ∀ (v' : Value) (W W' : World), (W.cell? ⟨B0, 0, none⟩ = some (.pointer (some ⟨mb, 0, none⟩)) ∧ W.cell? ⟨mb, 0, none⟩ = some (.pointer (some ⟨tb, 0, none⟩)) ∧ W.cell? ⟨mb, 1, none⟩ = some (.pointer (some ⟨cb, 0, none⟩)) ∧ B0 < W.heap.size ∧ mb < W.heap.size) → Cn.Turn cb (.slice none 0 0) v' W W' → (W'.cell? ⟨B0, 0, none⟩ = some (.pointer (some ⟨mb, 0, none⟩)) ∧ W'.cell? ⟨mb, 0, none⟩ = some (.pointer (some ⟨tb, 0, none⟩)) ∧ W'.cell? ⟨mb, 1, none⟩ = some (.pointer (some ⟨cb, 0, none⟩)) ∧ B0 < W'.heap.size ∧ mb < W'.heap.size) := fun v' W W' h hk => HKK.out _ _ _ h hk.1 (by simp [Value.ownBlock]; omega) (by simp [Value.ownBlock]; omega)
    clear hcr hk4 hch4
    go_wp2_with fail
    go_region_held3 (fun w' => w'.cell? ⟨B0, 0, none⟩ = some (.pointer (some ⟨mb, 0, none⟩)) ∧ w'.cell? ⟨mb, 0, none⟩ = some (.pointer (some ⟨tb, 0, none⟩)) ∧ w'.cell? ⟨mb, 1, none⟩ = some (.pointer (some ⟨cb, 0, none⟩)) ∧ B0 < w'.heap.size ∧ mb < w'.heap.size)
      (first | exact S4d | exact hkb _ _ (by assumption) (by assumption) | exact hkg _ _ _ (by assumption) (by assumption) hgg5 | exact hkt _ _ _ (by assumption) (by assumption))
      (first
        | (go_at_call 41; refine htm.mono ?_; rintro e w5 ⟨v5, ks, hS5, rfl, ho5, hv5, hb5⟩; obtain ⟨_, ⟨h0, _⟩ | ⟨g5, c5, cur5, rfl, hgg5, _⟩⟩ := id ho5; exact absurd h0 hv5)
        | (go_at_call 62; refine (hdl ks g5 c5 w5 ho5 hb5 hS5).mono ?_; rintro e w6 ⟨c6, rfl, ho6, hk6⟩)
        | (go_at_call 61; refine (hjn ks g5 c6 w5 w6 hgg5 hb5 hk6 ho6 hS5).mono ?_; rintro e w7 ⟨rfl, v7, hch7, ht7⟩))
    have KT : Cn.Turn cb v v7 w w7 := by
      have z4 := K4.out.size
      have z5 := hb5.size
      have z6 := hk6.size
      refine ⟨(((K4.out.trans (Kp.of_below (S := fun k => k = cb) hb5) (fun _ _ h => h)).trans hk6 (fun j hj e => by omega)).trans ht7.1 (fun j hj e => by simpa [Value.ownBlock] using e)).mono (fun _ h => Or.inl h), fun g hg => ?_⟩
      rcases ht7.2 g hg with h1 | h1
      · simp [Value.ownBlock] at h1
      · right; omega
    have HE : Hid (Mu w7 mb tb b cb n v7 f (cjoin bel tol [] ((stT ks).filter fun t => !decide (f t ≤ 0))) ∧ Cn.Turn cb v v7 w w7) := ⟨HM.out.turn KT hch7, KT⟩
    have HR : Hid (Sup f ks) := hS5
    clear KT hch7 ht7 hk6 ho6 hb5 ho5 hv5 hS5 hjn hdl htm hkb hkg hkt
    go_wp2
    refine bodyPost_ret (results_none rfl _ _ _) rfl ?_
    exact ⟨rfl, v7, _, Or.inl ⟨hq, ks, HR.out, rfl⟩, HE.out.1, HE.out.2⟩
  | false =>
    rw [hq] at hcf
    go_wp2_with fail
    refine hcf.mono ?_
    rintro e w3 ⟨rfl, hg3⟩
    have HM3 : Hid (Mu w3 mb tb b cb n v f fr) := HM2.out.below hg3.below
    have HS3 : Hid (w3.cell? ⟨B0, 0, none⟩ = some (.pointer (some ⟨mb, 0, none⟩)) ∧ w3.cell? ⟨mb, 0, none⟩ = some (.pointer (some ⟨tb, 0, none⟩)) ∧ w3.cell? ⟨mb, 1, none⟩ = some (.pointer (some ⟨cb, 0, none⟩)) ∧ B0 < w3.heap.size ∧ mb < w3.heap.size) := HKK.out (fun _ => False) _ _ HS2.out (Kp.of_gr hg3) (fun h => h) (fun h => h)
    have B3 : Hid (Below w.heap.size w w3) := B2.out.trans (hg3.below.mono B2.out.size)
    have HU3 : Hid (Ls ED w3 (.slice pu us.length cu) us) := HU.out.below B3.out
    clear hcf hg3 HGO eg HS2 HM2
    go_wp2_with fail
    go_loopw [6, 34] (fun _ s34 wr => ∃ (k : Nat) (vr : Value), k ≤ us.length ∧ s34 = .int .i64 k ∧ Hid (Cn.Ch wr cb fA fN vr (cjoin bel tol fr (((us.take k).filter fun d => decide (0 < d.2)).map Prod.fst)) ∧ Cn.Turn cb v vr w3 wr)) (fun _ s34 _ => us.length - (RowKit.intOf s34).toNat)
    case atStart => exact ⟨0, v, Nat.zero_le _, rfl, by simpa [cjoin] using HM3.out.ch, Cn.Turn.refl _ _ _⟩
    case round =>
      obtain ⟨k, vr, hk, rfl, HI⟩ := hrel
      by_cases hlt : k < us.length
      · have hltz : (k : Int) < (us.length : Int) := by omega
        obtain ⟨d, hd⟩ : ∃ d, us[k]? = some d := ⟨us[k], by simp⟩
        obtain ⟨b1, o1, c1, e1, z1, x1, x2, x3, x4⟩ := (HI.out.2.1.ls HU3.out (fun j hj hs => by
          obtain ⟨h1, h2⟩ := HAP.out j hj
          exact hs.elim h1 h2)).at4 hd
        simp only [Value.slice.injEq] at e1
        obtain ⟨rfl, -, rfl⟩ := e1
        have HJ : Hid (((us.take (k + 1)).filter fun d => decide (0 < d.2)).map Prod.fst = ((us.take k).filter fun d => decide (0 < d.2)).map Prod.fst ++ (if 0 < d.2 then [d.1] else [])) := by
          show _ = _
          rw [filter_take_succ hd, List.map_append]
          by_cases h0 : 0 < d.2 <;> simp [h0]
        have hFL : (((us.take k).filter fun d => decide (0 < d.2)).map Prod.fst).length ≤ k := by
          rw [List.length_map]
          exact Nat.le_trans (List.length_filter_le _ _) (by rw [List.length_take]; omega)
        have HV3 : Hid (∀ g, vr.ownBlock = some g → v.ownBlock = some g ∨ w3.heap.size ≤ g) := HI.out.2.2
        clear hd
        generalize ((us.take k).filter fun d => decide (0 < d.2)).map Prod.fst = L at *
        have hcl2 : ((cjoin bel tol fr L).length + 1) * 24 ≤ 140737488355328 := Nat.le_trans (Nat.mul_le_mul_right _ (Nat.add_le_add_right (Nat.le_trans (cjoin_length (bel := bel) (fst := tol) fr L) (Nat.add_le_add_left (Nat.le_trans hFL hk) _)) 1)) hl
        by_cases h0 : 0 < d.2
        · have HE : Hid (((us.take (k + 1)).filter fun d => decide (0 < d.2)).map Prod.fst = L ++ [d.1]) := by rw [HJ.out, if_pos h0]; simp [Hid]
          obtain ⟨W5, hW5⟩ : ∃ W5, W5 = wr.alloc (.cells #[.int .u64 d.1.1.1, .int .u64 d.1.1.2.1, .int .u64 d.1.1.2.2, .int .i64 d.2] 34) := ⟨_, rfl⟩
          obtain ⟨nb, hnb⟩ : ∃ nb, nb = wr.heap.size := ⟨_, rfl⟩
          have G5 : Gr wr W5 := by rw [hW5]; exact (Gr.refl _).alloc _
          have HG5 : Hid (Gr wr W5.drew) := G5.drew
          have hblk : W5.heap[nb]? = some (.cells #[.int .u64 d.1.1.1, .int .u64 d.1.1.2.1, .int .u64 d.1.1.2.2, .int .i64 d.2] 34 (0, 0)) := by rw [hW5, hnb]; exact heap_new' _ _
          have hin := Cn.insert_any (bel := bel) (fst := tol) d.1 W5.drew (HI.out.1.below HG5.out.below) hcl2 ahead_ok told_ok
          have hnbl : nb < W5.drew.heap.size := (Array.getElem?_eq_some_iff.1 hblk).1
          have hs3 := HKK.out _ _ _ HS3.out HI.out.2.1 (fun e => e.elim hBc (fun e => Nat.lt_irrefl _ (Nat.lt_of_lt_of_le (HVR.out _ e) hBw))) (fun e => e.elim a3 a6)
          have S5 : (W5.drew.cell? ⟨B0, 0, none⟩ = some (.pointer (some ⟨mb, 0, none⟩)) ∧ W5.drew.cell? ⟨mb, 0, none⟩ = some (.pointer (some ⟨tb, 0, none⟩)) ∧ W5.drew.cell? ⟨mb, 1, none⟩ = some (.pointer (some ⟨cb, 0, none⟩)) ∧ B0 < W5.drew.heap.size ∧ mb < W5.drew.heap.size) := HKK.out (fun _ => False) _ _ hs3 (Kp.of_gr HG5.out) (fun h => h) (fun h => h)
          have q0 : W5.drew.cell? ⟨nb, 0, none⟩ = some (.int .u64 d.1.1.1) := by show W5.cell? _ = _; simp only [World.cell?]; rw [hblk]; rfl
          have q1 : W5.drew.cell? ⟨nb, 1, none⟩ = some (.int .u64 d.1.1.2.1) := by show W5.cell? _ = _; simp only [World.cell?]; rw [hblk]; rfl
          have q2 : W5.drew.cell? ⟨nb, 2, none⟩ = some (.int .u64 d.1.1.2.2) := by show W5.cell? _ = _; simp only [World.cell?]; rw [hblk]; rfl
          have S9 : (W5.drew.cell? ⟨B0, 0, none⟩ = some (.pointer (some ⟨mb, 0, none⟩)) ∧ W5.drew.cell? ⟨mb, 0, none⟩ = some (.pointer (some ⟨tb, 0, none⟩)) ∧ W5.drew.cell? ⟨mb, 1, none⟩ = some (.pointer (some ⟨cb, 0, none⟩)) ∧ B0 < W5.drew.heap.size ∧ mb < W5.drew.heap.size ∧ W5.drew.cell? ⟨nb, 0, none⟩ = some (.int .u64 d.1.1.1) ∧ W5.drew.cell? ⟨nb, 1, none⟩ = some (.int .u64 d.1.1.2.1) ∧ W5.drew.cell? ⟨nb, 2, none⟩ = some (.int .u64 d.1.1.2.2) ∧ nb < W5.drew.heap.size) := ⟨S5.1, S5.2.1, S5.2.2.1, S5.2.2.2.1, S5.2.2.2.2, q0, q1, q2, hnbl⟩
          have n1 : ¬ (B0 = cb ∨ vr.ownBlock = some B0) := fun e => e.elim hBc (fun e => (HV3.out _ e).elim (fun e => Nat.lt_irrefl _ (Nat.lt_of_lt_of_le (HVR.out _ e) hBw)) (fun e => Nat.lt_irrefl _ (Nat.lt_of_lt_of_le HS3.out.2.2.2.1 e)))
          have n2 : ¬ (mb = cb ∨ vr.ownBlock = some mb) := fun e => e.elim a3 (fun e => (HV3.out _ e).elim a6 (fun e => Nat.lt_irrefl _ (Nat.lt_of_lt_of_le HS3.out.2.2.2.2 e)))
          have n3 : ¬ (nb = cb ∨ vr.ownBlock = some nb) := fun e => e.elim (fun e => by have := HI.out.1.lt; omega) (fun e => by have := HI.out.1.row _ e; omega)
          have keepT : ∀ (v9 : Value) (W W' : World), (W.cell? ⟨B0, 0, none⟩ = some (.pointer (some ⟨mb, 0, none⟩)) ∧ W.cell? ⟨mb, 0, none⟩ = some (.pointer (some ⟨tb, 0, none⟩)) ∧ W.cell? ⟨mb, 1, none⟩ = some (.pointer (some ⟨cb, 0, none⟩)) ∧ B0 < W.heap.size ∧ mb < W.heap.size ∧ W.cell? ⟨nb, 0, none⟩ = some (.int .u64 d.1.1.1) ∧ W.cell? ⟨nb, 1, none⟩ = some (.int .u64 d.1.1.2.1) ∧ W.cell? ⟨nb, 2, none⟩ = some (.int .u64 d.1.1.2.2) ∧ nb < W.heap.size) → Cn.Turn cb vr v9 W W' → (W'.cell? ⟨B0, 0, none⟩ = some (.pointer (some ⟨mb, 0, none⟩)) ∧ W'.cell? ⟨mb, 0, none⟩ = some (.pointer (some ⟨tb, 0, none⟩)) ∧ W'.cell? ⟨mb, 1, none⟩ = some (.pointer (some ⟨cb, 0, none⟩)) ∧ B0 < W'.heap.size ∧ mb < W'.heap.size ∧ W'.cell? ⟨nb, 0, none⟩ = some (.int .u64 d.1.1.1) ∧ W'.cell? ⟨nb, 1, none⟩ = some (.int .u64 d.1.1.2.1) ∧ W'.cell? ⟨nb, 2, none⟩ = some (.int .u64 d.1.1.2.2) ∧ nb < W'.heap.size) := fun v9 W W' h ht =>
            ⟨(ht.1.cell h.2.2.2.1 n1).trans h.1, (ht.1.cell h.2.2.2.2.1 n2).trans h.2.1, (ht.1.cell h.2.2.2.2.1 n2).trans h.2.2.1, Nat.lt_of_lt_of_le h.2.2.2.1 ht.1.size, Nat.lt_of_lt_of_le h.2.2.2.2.1 ht.1.size, (ht.1.cell h.2.2.2.2.2.2.2.2 n3).trans h.2.2.2.2.2.1, (ht.1.cell h.2.2.2.2.2.2.2.2 n3).trans h.2.2.2.2.2.2.1, (ht.1.cell h.2.2.2.2.2.2.2.2 n3).trans h.2.2.2.2.2.2.2.1, Nat.lt_of_lt_of_le h.2.2.2.2.2.2.2.2 ht.1.size⟩
          clear S5 hs3 q0 q1 q2 n1 n2 n3
          generalize hcn : cjoin bel tol fr L = F at *
          have HCN : Hid (cjoin bel tol fr (L ++ [d.1]) = cins bel tol F d.1) := by
            show _ = _
            rw [cjoin_append, hcn]; rfl
          clear hcn hblk G5
          generalize ccov bel F d.1 = r at hin
          go_wp2_with fail
          rw [← hW5, ← hnb]
          clear hW5 hnb x1 x2 x3 x4
          go_region_held3 (fun w' => w'.cell? ⟨B0, 0, none⟩ = some (.pointer (some ⟨mb, 0, none⟩)) ∧ w'.cell? ⟨mb, 0, none⟩ = some (.pointer (some ⟨tb, 0, none⟩)) ∧ w'.cell? ⟨mb, 1, none⟩ = some (.pointer (some ⟨cb, 0, none⟩)) ∧ B0 < w'.heap.size ∧ mb < w'.heap.size ∧ w'.cell? ⟨nb, 0, none⟩ = some (.int .u64 d.1.1.1) ∧ w'.cell? ⟨nb, 1, none⟩ = some (.int .u64 d.1.1.2.1) ∧ w'.cell? ⟨nb, 2, none⟩ = some (.int .u64 d.1.1.2.2) ∧ nb < w'.heap.size)
            (first | exact S9 | exact keepT _ _ _ (by assumption) (by assumption))
            (first | (go_at_call 63; refine hin.mono ?_; rintro e w8 ⟨v8, rfl, hch8, ht8⟩))
          go_wp2
          go_roundw
          case rel =>
            refine ⟨k + 1, v8, by omega, by go_num, ?_, (HI.out.2.trans (Cn.Turn.of_below HG5.out.below)).trans ht8⟩
            rw [HE.out, HCN.out]
            exact hch8
          case measure => simp [RowKit.intOf]; omega
        · have HE : Hid (((us.take (k + 1)).filter fun d => decide (0 < d.2)).map Prod.fst = L) := by rw [HJ.out, if_neg h0]; simp [Hid]
          go_wp2
          go_roundw
          case rel =>
            refine ⟨k + 1, vr, by omega, by go_num, ?_, HI.out.2.trans (Cn.Turn.of_below ((Gr.refl _).alloc _).below)⟩
            rw [HE.out]
            exact HI.out.1.below ((Gr.refl _).alloc _).below
          case measure => simp [RowKit.intOf]; omega
      · have hltz : ¬ (k : Int) < (us.length : Int) := by omega
        have hk' : k = us.length := by omega
        subst hk'
        rw [List.take_length] at HI
        go_wp2
        go_end0
        have KT : Cn.Turn cb v vr w wr := (Cn.Turn.of_below B3.out).trans HI.out.2
        exact ⟨rfl, vr, _, Or.inr ⟨hq, rfl⟩, HM.out.turn KT HI.out.1, KT⟩
end Go.Proofs.YtbdkjcfkocdhfaaGreat
