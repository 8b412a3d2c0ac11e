import Derived.Test.YtnpmmodcmfgbjaaGreatMCopy2
namespace Go.Proofs.YtnpmmodcmfgbjaaGreat
open Go.RowKit Go.Sort Go.Maps
open Tt (Tl byd byd_f byd_t)
attribute [local go_sem ↓] Go.wp_at_zero Go.wp_at_succ

/-- A copy of a tally, its blocks as letters. -/
theorem tcopy_at {tb b g n : Nat} {f : Tm → Int} (w : World) (h : Tl w tb b g n f) :
    Calls Tryz.prog 59 #[.pointer (some ⟨tb, 0, none⟩)] w fun e w' => ∃ tb' b', e = .returned (.pointer (some ⟨tb', 0, none⟩)) ∧ Hid (w.heap.size ≤ tb' ∧ w.heap.size ≤ b' ∧ Tl w' tb' b' g n f ∧ Gr w w') :=
  (tcopy_any w h).mono fun _ _ ⟨h1, h2, h3⟩ => ⟨_, _, h1, Nat.le_succ _, Nat.le_refl _, h2, h3⟩

set_option maxHeartbeats 1000000 in
theorem copied_any {tb b g n : Nat} {f : Tm → Int} (w : World) (h : Tl w tb b g n f) :
    Calls Tryz.prog 37 #[cv tb] w fun e w' => ∃ tb' b', e = .returned (cv tb') ∧ Hid (w.heap.size ≤ tb' ∧ w.heap.size ≤ b' ∧ Tl w' tb' b' g n f ∧ Below w.heap.size w w') := by
  obtain ⟨W2, hW2⟩ : ∃ W2, W2 = (w.alloc (.cells #[.pointer (some ⟨tb, 0, none⟩)] 60)).alloc (.cells #[.pointer none] 60) := ⟨_, rfl⟩
  have G2 : Gr w W2 := by rw [hW2]; exact ((Gr.refl _).alloc _).alloc _
  have hco := tcopy_at W2 (h.gr G2)
  have HG2 : Hid (Gr w W2) := G2
  have HB : Hid (W2.heap[w.heap.size + 1]? = some (.cells #[.pointer none] 60 (0, 0))) := by rw [hW2]; exact heap_alloc2_new _ _ _
  have HZ : Hid (w.heap.size + 1 < W2.heap.size) := by rw [hW2]; simp [Hid]
  clear h G2
  go_enter Tryz.func37, Tryz.ntmps37
  go_wp2_with fail
  rw [← hW2]
  clear hW2
  refine hco.mono ?_
  rintro e w5 ⟨tb', b', rfl, H5⟩
  have hb5 : w5.heap[w.heap.size + 1]? = some (.cells #[.pointer none] 60 (0, 0)) := (H5.out.2.2.2.below.block _ HZ.out).trans HB.out
  have q0 : w5.cell? ⟨w.heap.size + 1, 0, none⟩ = some (.pointer none) := by simp [World.cell?, hb5]
  have q0f : w5.frozen? ⟨w.heap.size + 1, 0, none⟩ = false := by simp [World.frozen?, hb5]
  have HB5 : Hid (w5.heap[w.heap.size + 1]? = some (.cells #[.pointer none] 60 (0, 0))) := hb5
  clear hco hb5
  go_wp2
  have e := setCell_eq_setRow w5 (w.heap.size + 1) 0 _ _ _ (.pointer (some ⟨tb', 0, none⟩)) HB5.out
  have hk : Kp (fun k => k = w.heap.size + 1) w5 (w5.setCell ⟨w.heap.size + 1, 0, none⟩ (.pointer (some ⟨tb', 0, none⟩))) := by
    rw [e]
    exact ⟨rfl, rfl, rfl, by simp [World.setRow], fun k _ hne => setRow_other _ _ k _ (by omega)⟩
  have hb' : (w5.setCell ⟨w.heap.size + 1, 0, none⟩ (.pointer (some ⟨tb', 0, none⟩))).heap[w.heap.size + 1]? = some (.cells #[.pointer (some ⟨tb', 0, none⟩)] 60 (0, 0)) := by
    rw [e, setRow_heap _ _ _ _ _ _ HB5.out]
    simp
  have q1 : (w5.setCell ⟨w.heap.size + 1, 0, none⟩ (.pointer (some ⟨tb', 0, none⟩))).cell? ⟨w.heap.size + 1, 0, none⟩ = some (.pointer (some ⟨tb', 0, none⟩)) := by simp [World.cell?, hb']
  refine bodyPost_ret (v := cv tb') (by simp [results, Tryz.results37, go_sem, q1]) rfl ?_
  obtain ⟨h1, h2, h3, h4⟩ := H5.out
  have hz := HZ.out
  have hg := HG2.out.trans h4
  exact ⟨tb', b', rfl, by omega, by omega, h3.kp hk (by omega) (by omega), hg.below.trans (hk.below hg.size (fun k hk => by omega))⟩

set_option maxHeartbeats 2000000 in
/-- Copy of a Multi. -/
theorem mcopy_any {mb tb b cb n : Nat} {v : Value} {f : Tm → Int} {fr : List Tm} (w : World) (h : Mu w mb tb b cb n v f fr) (hl : fr.length * 24 ≤ 140737488355328) :
    Calls Tryz.prog 17 #[.pointer (some ⟨mb, 0, none⟩)] w fun e w' => ∃ mb' tb' b' cb' v', e = .returned (.pointer (some ⟨mb', 0, none⟩)) ∧ Hid (Mu w' mb' tb' b' cb' n v' f fr ∧ Below w.heap.size w w' ∧ w.heap.size ≤ mb' ∧ w.heap.size ≤ tb' ∧ w.heap.size ≤ b' ∧ w.heap.size ≤ cb' ∧ ∀ g, v'.ownBlock = some g → w.heap.size ≤ g) := by
  have hmx : Tryz.prog.follows .mixedOrders = true := by kernel_rfl
  have HM : Hid (Mu w mb tb b cb n v f fr) := h
  have S0 : w.drew.cell? ⟨mb, 0, none⟩ = some (.pointer (some ⟨tb, 0, none⟩)) ∧ w.drew.cell? ⟨mb, 1, none⟩ = some (.pointer (some ⟨cb, 0, none⟩)) ∧ mb < w.drew.heap.size := ⟨h.c0, h.c1, h.lt⟩
  have keepB : ∀ W W' : World, (W.cell? ⟨mb, 0, none⟩ = some (.pointer (some ⟨tb, 0, none⟩)) ∧ W.cell? ⟨mb, 1, none⟩ = some (.pointer (some ⟨cb, 0, none⟩)) ∧ mb < W.heap.size) → Below W.heap.size W W' → (W'.cell? ⟨mb, 0, none⟩ = some (.pointer (some ⟨tb, 0, none⟩)) ∧ W'.cell? ⟨mb, 1, none⟩ = some (.pointer (some ⟨cb, 0, none⟩)) ∧ mb < W'.heap.size) := fun W W' h hb =>
    ⟨(hb.cell (p := ⟨mb, 0, none⟩) h.2.2).trans h.1, (hb.cell (p := ⟨mb, 1, none⟩) h.2.2).trans h.2.1, Nat.lt_of_lt_of_le h.2.2 hb.size⟩
  have hM1 := h.below (Gr.refl w).drew.below
  have hc1 := (copied_any w.drew hM1.tl).mono fun e w' ⟨tb', b', h1, h2⟩ => (⟨tb', b', h1, h2, h2.out.2.2.2⟩ : ∃ tb' b', e = Ending.returned (cv tb') ∧ Hid (w.drew.heap.size ≤ tb' ∧ w.drew.heap.size ≤ b' ∧ Tl w' tb' b' _ n f ∧ Below w.drew.heap.size w.drew w') ∧ Below w.drew.heap.size w.drew w')
  have hc2 : ∀ W, Below w.drew.heap.size w.drew W → Calls Tryz.prog 38 #[.pointer (some ⟨cb, 0, none⟩)] W fun e w' => ∃ cb' v', e = .returned (.pointer (some ⟨cb', 0, none⟩)) ∧ Hid (W.heap.size ≤ cb' ∧ Cn.Ch w' cb' fA fN v' fr ∧ (∀ g, v'.ownBlock = some g → W.heap.size ≤ g)) ∧ Below W.heap.size W w' := fun W hW =>
    (Cn.copy_any W (hM1.below hW).ch hl).mono fun _ _ ⟨cb', v', h1, h2, h3, h4, h5⟩ => ⟨cb', v', h1, ⟨h2, h3, h5⟩, h4⟩
  clear h hM1
  go_enter Tryz.func17, Tryz.ntmps17
  go_wp2_with fail
  go_region_held3 (fun w' => w'.cell? ⟨mb, 0, none⟩ = some (.pointer (some ⟨tb, 0, none⟩)) ∧ w'.cell? ⟨mb, 1, none⟩ = some (.pointer (some ⟨cb, 0, none⟩)) ∧ mb < w'.heap.size)
    (first | exact S0 | exact keepB _ _ (by assumption) (by assumption) | exact keepB _ _ (by assumption) ((Gr.refl _).alloc _).below)
    (first | (go_at_call 37; refine hc1.mono ?_; rintro e w5 ⟨tb', b', rfl, H5, hb5⟩) | (go_at_call 38; refine (hc2 _ hb5).mono ?_; rintro e w6 ⟨cb', v', rfl, H6, hb6⟩))
  go_wp2
  go_ret
  obtain ⟨h1, h2, h3, h4⟩ := H5.out
  obtain ⟨h5, h6, h7⟩ := H6.out
  have hal : ∀ o, Below w6.heap.size w6 (w6.alloc o) := fun o => ((Gr.refl w6).alloc o).below
  have hz : w.heap.size ≤ w5.heap.size := hb5.size
  have hz6 := hb6.size
  have hw5 : Below w.heap.size w w5 := (Gr.refl w).drew.below.trans hb5
  have h56 : ∀ o, Below w5.heap.size w5 (w6.alloc o) := fun o => hb6.trans ((hal o).mono hb6.size)
  have h1' : w.heap.size ≤ tb' := h1
  have h2' : w.heap.size ≤ b' := h2
  exact ⟨w6.heap.size, tb', b', cb', v', rfl, ⟨heap_new' _ _, h3.below (h56 _), h6.below (hal _)⟩, hw5.trans ((h56 _).mono hz), by omega, h1', h2', by omega, fun g hg => Nat.le_trans hz (h7 g hg)⟩
end Go.Proofs.YtnpmmodcmfgbjaaGreat
