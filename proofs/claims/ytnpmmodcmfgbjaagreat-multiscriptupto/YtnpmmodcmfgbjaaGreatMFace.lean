import Derived.Test.YtnpmmodcmfgbjaaGreatMApp
namespace Go.Proofs.YtnpmmodcmfgbjaaGreat
open Go.RowKit Go.Sort Go.Maps
open Tt (Tl byd byd_f byd_t)
attribute [local go_sem ↓] Go.wp_at_zero Go.wp_at_succ

theorem cnew_any (w : World) : Calls Tryz.prog 26 #[fv fA, fv fN] w fun e w' => e = .returned (.pointer (some ⟨w.heap.size, 0, none⟩)) ∧ Cn.Ch w' w.heap.size fA fN (.slice none 0 0) [] ∧ Gr w w' := by
  go_enter Tryz.func26, Tryz.ntmps26
  go_wp2
  go_ret
  exact ⟨rfl, ⟨heap_new' _ _, World.ownsRow_nil _ _ _ _, by simp [Value.ownBlock]⟩, (Gr.refl _).alloc _⟩
set_option maxHeartbeats 1000000 in
theorem nocounts_any (w : World) : Calls Tryz.prog 25 #[] w fun e w' => ∃ tb b, e = .returned (cv tb) ∧ Tl w' tb b fC 0 (fun _ => 0) ∧ w.heap.size ≤ tb ∧ w.heap.size ≤ b ∧ Kp (fun _ => False) w w' := by
  have h := fun W => Tt.new_any fC W
  obtain ⟨W1, hW1⟩ : ∃ W1, W1 = w.alloc (.cells #[.pointer none] 60) := ⟨_, rfl⟩
  have G1 : Gr w W1 := by rw [hW1]; exact (Gr.refl _).alloc _
  have hblk : W1.heap[w.heap.size]? = some (.cells #[.pointer none] 60 (0, 0)) := by rw [hW1]; exact heap_new' _ _
  have hlt : w.heap.size < W1.heap.size := (Array.getElem?_eq_some_iff.1 hblk).1
  go_enter Tryz.func25, Tryz.ntmps25
  go_wp2_with fail
  rw [← hW1]
  refine (h _).mono ?_
  rintro e w2 ⟨rfl, ht, hg⟩
  have c0 : w2.cell? ⟨w.heap.size, 0, none⟩ = some (.pointer none) := (hg.cell hlt).trans (by simp [World.cell?, hblk])
  have f0 : w2.frozen? ⟨w.heap.size, 0, none⟩ = false := (hg.frozen hlt).trans (by simp [World.frozen?, hblk])
  have hl2 := Nat.lt_of_lt_of_le hlt hg.size
  have hbl2 := (hg.below.block _ hlt).trans hblk
  clear h
  have hz1 : W1.heap.size = w.heap.size + 1 := by rw [hW1]; simp
  clear hW1
  go_wp2
  have e2 := setCell_eq_setRow w2 w.heap.size 0 _ _ _ (.pointer (some ⟨w.heap.size + 1 + 1, 0, none⟩)) hbl2
  have hk : Kp (fun k => k = w.heap.size) w2 (w2.setCell ⟨w.heap.size, 0, none⟩ (.pointer (some ⟨w.heap.size + 1 + 1, 0, none⟩))) := by
    rw [e2]
    exact ⟨rfl, rfl, rfl, by simp [World.setRow], fun k _ hne => setRow_other _ _ k _ hne⟩
  have c9 : (w2.setCell ⟨w.heap.size, 0, none⟩ (.pointer (some ⟨w.heap.size + 1 + 1, 0, none⟩))).cell? ⟨w.heap.size, 0, none⟩ = some (.pointer (some ⟨w.heap.size + 1 + 1, 0, none⟩)) := by
    have := setRow_heap w2 w.heap.size _ ((#[Value.pointer none] : Array Value).setIfInBounds 0 (.pointer (some ⟨w.heap.size + 1 + 1, 0, none⟩))) _ _ hbl2
    rw [e2]
    simp only [World.cell?]
    rw [this]
    rfl
  rw [hz1] at ht
  refine bodyPost_ret (v := cv (w.heap.size + 1 + 1)) (by simp [results, Tryz.results25, go_sem, c9]) rfl ?_
  refine ⟨_, _, rfl, ht.kp hk (by omega) (by omega), by omega, by omega, ?_⟩
  exact (Kp.of_gr (G1.trans hg)).trans hk (fun j hj e => by omega)
theorem mnew_any (w : World) : Calls Tryz.prog 5 #[] w fun e w' => ∃ mb tb b cb, e = .returned (.pointer (some ⟨mb, 0, none⟩)) ∧ Mu w' mb tb b cb 0 (.slice none 0 0) (fun _ => 0) [] ∧ (w.heap.size ≤ mb ∧ w.heap.size ≤ tb ∧ w.heap.size ≤ b ∧ w.heap.size ≤ cb) ∧ Below w.heap.size w w' := by
  have h1 := nocounts_any w
  have h2 := fun W => cnew_any W
  go_enter Tryz.func5, Tryz.ntmps5
  go_wp2_with fail
  refine h1.mono ?_
  rintro e w1 ⟨tb, b, rfl, ht, hz1, hz2, hk⟩
  go_wp2_with fail
  refine (h2 _).mono ?_
  rintro e w2 ⟨rfl, hc, hg⟩
  go_wp2
  go_ret
  have z1 := hk.size
  have z2 := hg.size
  refine ⟨_, tb, b, _, rfl, ⟨heap_new' _ _, (ht.gr hg).gr ((Gr.refl _).alloc _), hc.below ((Gr.refl _).alloc _).below⟩, ⟨by omega, hz1, hz2, by omega⟩, ?_⟩
  have b1 : Below w.heap.size w w1 := hk.below (Nat.le_refl _) (fun _ h => h.elim)
  exact b1.trans ((hg.trans ((Gr.refl _).alloc _)).below.mono z1)
section
variable {mb tb b cb n : Nat} {v : Value} {f : Tm → Int} {fr : List Tm}
theorem front_any (w : World) (h : Mu w mb tb b cb n v f fr) (hl : fr.length * 24 ≤ 140737488355328) :
    Calls Tryz.prog 8 #[.pointer (some ⟨mb, 0, none⟩)] w fun e w' => ∃ v', e = .returned v' ∧ w'.ownsRow w.heap.size 37 3 v' fr.length (flT fr) ∧ Below w.heap.size w w' := by
  have hl := Cn.list_any w h.ch hl
  have m1 := h.c1
  have hml := h.lt
  clear h
  go_enter Tryz.func8, Tryz.ntmps8
  go_wp2_with fail
  refine hl.mono ?_
  rintro e w1 ⟨v1, rfl, ho, hb⟩
  go_wp2
  go_ret
  exact ⟨_, rfl, ho, hb⟩
set_option maxHeartbeats 1000000 in
theorem count_any (x : Tm) (w : World) (h : Mu w mb tb b cb n v f fr) :
    Calls Tryz.prog 12 #[.pointer (some ⟨mb, 0, none⟩), tv x] w fun e w' => e = .returned (.int .i64 (f x)) ∧ Gr w w' := by
  have hmx : Tryz.prog.follows .mixedOrders = true := by kernel_rfl
  obtain ⟨W1, hW1⟩ : ∃ W1, W1 = w.alloc (.cells #[.int .u64 x.1.1, .int .u64 x.1.2.1, .int .u64 x.1.2.2] 37) := ⟨_, rfl⟩
  obtain ⟨nb, hnb⟩ : ∃ nb, nb = w.heap.size := ⟨_, rfl⟩
  have G1 : Gr w W1 := by rw [hW1]; exact (Gr.refl _).alloc _
  have HG : Hid (Gr w W1.drew) := G1.drew
  have hco := mcount_any x W1.drew (h.tl.gr G1.drew)
  have hblk : W1.heap[nb]? = some (.cells #[.int .u64 x.1.1, .int .u64 x.1.2.1, .int .u64 x.1.2.2] 37 (0, 0)) := by rw [hW1, hnb]; exact heap_new' _ _
  have S0 : (W1.drew.cell? ⟨mb, 0, none⟩ = some (.pointer (some ⟨tb, 0, none⟩)) ∧ W1.drew.cell? ⟨nb, 0, none⟩ = some (.int .u64 x.1.1) ∧ W1.drew.cell? ⟨nb, 1, none⟩ = some (.int .u64 x.1.2.1) ∧ W1.drew.cell? ⟨nb, 2, none⟩ = some (.int .u64 x.1.2.2) ∧ mb < W1.drew.heap.size ∧ nb < W1.drew.heap.size) := by
    refine ⟨(G1.drew.cell h.lt).trans h.c0, ?_, ?_, ?_, Nat.lt_of_lt_of_le h.lt G1.size, (Array.getElem?_eq_some_iff.1 hblk).1⟩
    all_goals (show W1.cell? _ = _; simp only [World.cell?]; rw [hblk]; rfl)
  have keepG : ∀ W W' : World, (W.cell? ⟨mb, 0, none⟩ = some (.pointer (some ⟨tb, 0, none⟩)) ∧ W.cell? ⟨nb, 0, none⟩ = some (.int .u64 x.1.1) ∧ W.cell? ⟨nb, 1, none⟩ = some (.int .u64 x.1.2.1) ∧ W.cell? ⟨nb, 2, none⟩ = some (.int .u64 x.1.2.2) ∧ mb < W.heap.size ∧ nb < W.heap.size) → Gr W W' → (W'.cell? ⟨mb, 0, none⟩ = some (.pointer (some ⟨tb, 0, none⟩)) ∧ W'.cell? ⟨nb, 0, none⟩ = some (.int .u64 x.1.1) ∧ W'.cell? ⟨nb, 1, none⟩ = some (.int .u64 x.1.2.1) ∧ W'.cell? ⟨nb, 2, none⟩ = some (.int .u64 x.1.2.2) ∧ mb < W'.heap.size ∧ nb < W'.heap.size) := fun W W' h hg =>
    ⟨(hg.cell h.2.2.2.2.1).trans h.1, (hg.cell h.2.2.2.2.2).trans h.2.1, (hg.cell h.2.2.2.2.2).trans h.2.2.1, (hg.cell h.2.2.2.2.2).trans h.2.2.2.1, Nat.lt_of_lt_of_le h.2.2.2.2.1 hg.size, Nat.lt_of_lt_of_le h.2.2.2.2.2 hg.size⟩
  generalize f x = c at hco ⊢
  clear h hblk
  go_enter Tryz.func12, Tryz.ntmps12
  go_wp2_with fail
  rw [← hW1, ← hnb]
  clear hW1 hnb G1
  go_region_held3 (fun w' => w'.cell? ⟨mb, 0, none⟩ = some (.pointer (some ⟨tb, 0, none⟩)) ∧ w'.cell? ⟨nb, 0, none⟩ = some (.int .u64 x.1.1) ∧ w'.cell? ⟨nb, 1, none⟩ = some (.int .u64 x.1.2.1) ∧ w'.cell? ⟨nb, 2, none⟩ = some (.int .u64 x.1.2.2) ∧ mb < w'.heap.size ∧ nb < w'.heap.size)
    (first | exact S0 | exact keepG _ _ (by assumption) (by assumption))
    (first | (go_at_call 33; refine hco.mono ?_; rintro e w5 ⟨rfl, hg5⟩))
  go_wp2
  go_ret
  exact ⟨rfl, HG.out.trans hg5⟩
set_option maxHeartbeats 1000000 in
theorem open_any (x : Tm) (w : World) (h : Mu w mb tb b cb n v f fr) (hl : fr.length * 24 ≤ 140737488355328) :
    Calls Tryz.prog 10 #[.pointer (some ⟨mb, 0, none⟩), tv x] w fun e w' => e = .returned (.bool (ccov bel fr x)) ∧ Gr w w' := by
  have hmx : Tryz.prog.follows .mixedOrders = true := by kernel_rfl
  obtain ⟨W1, hW1⟩ : ∃ W1, W1 = w.alloc (.cells #[.int .u64 x.1.1, .int .u64 x.1.2.1, .int .u64 x.1.2.2] 37) := ⟨_, rfl⟩
  obtain ⟨nb, hnb⟩ : ∃ nb, nb = w.heap.size := ⟨_, rfl⟩
  have G1 : Gr w W1 := by rw [hW1]; exact (Gr.refl _).alloc _
  have HG : Hid (Gr w W1.drew) := G1.drew
  have hco := Cn.covers_any x W1.drew (h.ch.below G1.drew.below) hl ahead_ok
  have hblk : W1.heap[nb]? = some (.cells #[.int .u64 x.1.1, .int .u64 x.1.2.1, .int .u64 x.1.2.2] 37 (0, 0)) := by rw [hW1, hnb]; exact heap_new' _ _
  have S0 : (W1.drew.cell? ⟨mb, 1, none⟩ = some (.pointer (some ⟨cb, 0, none⟩)) ∧ W1.drew.cell? ⟨nb, 0, none⟩ = some (.int .u64 x.1.1) ∧ W1.drew.cell? ⟨nb, 1, none⟩ = some (.int .u64 x.1.2.1) ∧ W1.drew.cell? ⟨nb, 2, none⟩ = some (.int .u64 x.1.2.2) ∧ mb < W1.drew.heap.size ∧ nb < W1.drew.heap.size) := by
    refine ⟨(G1.drew.cell h.lt).trans h.c1, ?_, ?_, ?_, Nat.lt_of_lt_of_le h.lt G1.size, (Array.getElem?_eq_some_iff.1 hblk).1⟩
    all_goals (show W1.cell? _ = _; simp only [World.cell?]; rw [hblk]; rfl)
  have keepG : ∀ W W' : World, (W.cell? ⟨mb, 1, none⟩ = some (.pointer (some ⟨cb, 0, none⟩)) ∧ W.cell? ⟨nb, 0, none⟩ = some (.int .u64 x.1.1) ∧ W.cell? ⟨nb, 1, none⟩ = some (.int .u64 x.1.2.1) ∧ W.cell? ⟨nb, 2, none⟩ = some (.int .u64 x.1.2.2) ∧ mb < W.heap.size ∧ nb < W.heap.size) → Gr W W' → (W'.cell? ⟨mb, 1, none⟩ = some (.pointer (some ⟨cb, 0, none⟩)) ∧ W'.cell? ⟨nb, 0, none⟩ = some (.int .u64 x.1.1) ∧ W'.cell? ⟨nb, 1, none⟩ = some (.int .u64 x.1.2.1) ∧ W'.cell? ⟨nb, 2, none⟩ = some (.int .u64 x.1.2.2) ∧ mb < W'.heap.size ∧ nb < W'.heap.size) := fun W W' h hg =>
    ⟨(hg.cell h.2.2.2.2.1).trans h.1, (hg.cell h.2.2.2.2.2).trans h.2.1, (hg.cell h.2.2.2.2.2).trans h.2.2.1, (hg.cell h.2.2.2.2.2).trans h.2.2.2.1, Nat.lt_of_lt_of_le h.2.2.2.2.1 hg.size, Nat.lt_of_lt_of_le h.2.2.2.2.2 hg.size⟩
  generalize ccov bel fr x = c at hco ⊢
  clear h hblk
  go_enter Tryz.func10, Tryz.ntmps10
  go_wp2_with fail
  rw [← hW1, ← hnb]
  clear hW1 hnb G1
  go_region_held3 (fun w' => w'.cell? ⟨mb, 1, none⟩ = some (.pointer (some ⟨cb, 0, none⟩)) ∧ w'.cell? ⟨nb, 0, none⟩ = some (.int .u64 x.1.1) ∧ w'.cell? ⟨nb, 1, none⟩ = some (.int .u64 x.1.2.1) ∧ w'.cell? ⟨nb, 2, none⟩ = some (.int .u64 x.1.2.2) ∧ mb < w'.heap.size ∧ nb < w'.heap.size)
    (first | exact S0 | exact keepG _ _ (by assumption) (by assumption))
    (first | (go_at_call 31; refine hco.mono ?_; rintro e w5 ⟨rfl, hg5⟩))
  go_wp2
  go_ret
  exact ⟨rfl, HG.out.trans hg5⟩
theorem len_any (w : World) (h : Mu w mb tb b cb n v f fr) :
    Calls Tryz.prog 14 #[.pointer (some ⟨mb, 0, none⟩)] w fun e w' => ∃ ks : List Tm, Sup f ks ∧ e = .returned (.int .i64 ks.length) ∧ Gr w w' := by
  have hc := many_any w h.tl
  have m0 := h.c0
  have hml := h.lt
  clear h
  go_enter Tryz.func14, Tryz.ntmps14
  go_wp2_with fail
  refine hc.mono ?_
  rintro e w1 ⟨ks, hk, rfl, hg⟩
  go_wp2
  go_ret
  exact ⟨ks, hk, rfl, hg⟩
end
theorem front_nil (w : World) : Calls Tryz.prog 8 #[.pointer none] w fun e w' => e = .returned (.slice none 0 0) ∧ w' = w := by
  go_enter Tryz.func8, Tryz.ntmps8
  go_wp2
  go_ret
  exact ⟨rfl, rfl⟩
theorem times_nil (w : World) : Calls Tryz.prog 16 #[.pointer none] w fun e w' => e = .returned (.slice none 0 0) ∧ w' = w := by
  go_enter Tryz.func16, Tryz.ntmps16
  go_wp2
  go_ret
  exact ⟨rfl, rfl⟩
theorem copy_nil (w : World) : Calls Tryz.prog 17 #[.pointer none] w fun e w' => e = .returned (.pointer none) ∧ w' = w := by
  go_enter Tryz.func17, Tryz.ntmps17
  go_wp2
  go_ret
  exact ⟨rfl, rfl⟩
theorem len_nil (w : World) : Calls Tryz.prog 14 #[.pointer none] w fun e w' => e = .returned (.int .i64 0) ∧ w' = w := by
  go_enter Tryz.func14, Tryz.ntmps14
  go_wp2
  go_ret
  exact ⟨rfl, rfl⟩
theorem count_nil (x : Tm) (w : World) : Calls Tryz.prog 12 #[.pointer none, tv x] w fun e w' => e = .returned (.int .i64 0) ∧ Gr w w' := by
  go_enter Tryz.func12, Tryz.ntmps12
  go_wp2
  go_ret
  exact ⟨rfl, (Gr.refl _).alloc _⟩
theorem open_nil (x : Tm) (w : World) : Calls Tryz.prog 10 #[.pointer none, tv x] w fun e w' => e = .returned (.bool false) ∧ Gr w w' := by
  have hmx : Tryz.prog.follows .mixedOrders = true := by kernel_rfl
  go_enter Tryz.func10, Tryz.ntmps10
  go_wp2_with fail
  go_quiet (fail)
  go_wp2
  go_ret
  exact ⟨rfl, ((Gr.refl _).alloc _).drewN _⟩
end Go.Proofs.YtnpmmodcmfgbjaaGreat
