import Derived.Test.YtcdmgclkgojgaaaPoLinkO
import Derived.Test.YtcdmgclkgojgaaaLStep
namespace Go.Proofs.Ytcdmgclkgojgaaa.Po
open Go.RowKit Go.Sort
attribute [local go_sem ↓] Go.wp_at_zero Go.wp_at_succ

theorem upd_id {β : Type} (f : Nat → β) (i : Nat) : upd f i (f i) = f := by
  funext j
  by_cases e : j = i
  · rw [e, upd_self]
  · rw [upd_ne _ _ e]
/-- What a call may turn of a link. -/
def Trn (hb : Nat) (v : Value) (w w' : World) : Prop := Kp (fun k => k = hb ∨ v.ownBlock = some k) w w'
/-- Behind an append to a link's list. -/
theorem Pb.grown {w w3 : World} {hb W : Nat} {v : Nat → Value} {tk : Nat → Nat} {X : Nat → List Th} (h : Pb w hb W v tk X) {i : Nat} (hi : i < 64) {x : Th} {u : Value} (ho : w3.ownsRow 0 28 5 u ((X i).length + 1) (fl ET (X i) ++ ET.enc x))
    (hk : Kp (fun k => (v i).ownBlock = some k) w w3) (hn : ∀ g, u.ownBlock = some g → (v i).ownBlock = some g ∨ w.heap.size ≤ g) :
    Pb (w3.setCell ⟨hb, 1 + 2 * i, none⟩ u) hb W (upd v i u) (upd tk i (tk i)) (upd X i (X i ++ [x])) ∧ Trn hb (v i) w (w3.setCell ⟨hb, 1 + 2 * i, none⟩ u) ∧ ∀ g, u.ownBlock = some g → (v i).ownBlock = some g ∨ w.heap.size ≤ g := by
  have hB : Bk w3 hb W v tk := h.blk.kept (hk.block hb h.blk.lt (h.off i hi))
  obtain ⟨b1, b2⟩ := hB.setV hi u
  have hK : Trn hb (v i) w (w3.setCell ⟨hb, 1 + 2 * i, none⟩ u) := (hk.mono (fun _ h => Or.inr h)).trans b2 (fun _ _ h => Or.inl h)
  refine ⟨h.turn hi (by rw [upd_id]; exact b1) ?_ ?_ hK hn, hK, hn⟩
  · have := owns_kp b2 ho (fun k hk e => ?_)
    · exact owns_re this (by simp) (by rw [fl_append, fl_one])
    · subst e
      rcases hn k hk with h1 | h1
      · exact h.off i hi h1
      · exact absurd h.blk.lt (by omega)
  · have := h.le i hi
    simp; omega
set_option maxHeartbeats 2000000 in
theorem lput_any {hb W : Nat} {v : Nat → Value} {tk : Nat → Nat} {X : Nat → List Th} {i : Nat} (x : Th) (w : World) (h : Pb w hb W v tk X) (hi : i < 64) (hbig : ((X i).length + 1) * 40 ≤ 140737488355328) :
    Calls Try.prog 35 #[.pointer (some ⟨hb, 1 + 2 * i, none⟩), tv x] w fun e w' => e = .returned (.tuple #[]) ∧ ∃ u, Pb w' hb W (upd v i u) (upd tk i (tk i)) (upd X i (X i ++ [x])) ∧ Trn hb (v i) w w' ∧ ∀ g, u.ownBlock = some g → (v i).ownBlock = some g ∨ w.heap.size ≤ g := by
  have hmx : Try.prog.follows .mixedOrders = true := by kernel_rfl
  obtain ⟨b1, hb1⟩ : ∃ b1, b1 = w.heap.size := ⟨_, rfl⟩
  obtain ⟨W1, hW1⟩ : ∃ W1, W1 = w.alloc (.cells #[.int .i64 x.1, .int .i64 x.2.1, .int .i64 x.2.2.1, .int .i64 x.2.2.2.1, .int .i64 x.2.2.2.2] 28) := ⟨_, rfl⟩
  have G1 : Gr w W1 := by rw [hW1]; exact (Gr.refl _).alloc _
  have HBX : Hid (W1.heap[b1]? = some (.cells #[.int .i64 x.1, .int .i64 x.2.1, .int .i64 x.2.2.1, .int .i64 x.2.2.2.1, .int .i64 x.2.2.2.2] 28 (0, 0))) := by rw [hW1, hb1]; exact heap_new' _ _
  have HP1 := hid (h.gr G1)
  have HI := hid hi
  have HG1 := hid G1
  have HBG : Hid (((X i).length + 1) * 40 ≤ 140737488355328 ∧ (X i).length + 1 ≤ maxLen) := ⟨hbig, by unfold maxLen; omega⟩
  obtain ⟨o, ho⟩ : ∃ o, o = 1 + 2 * i := ⟨_, rfl⟩
  rw [← ho]
  have HO := hid ho
  clear h hi ho hbig G1
  go_enter Try.func35, Try.ntmps35
  go_upto_region 1 with fail
  rw [← hW1, ← hb1]
  clear hW1 hb1
  obtain ⟨vi, hvi⟩ : ∃ vi, vi = v i := ⟨_, rfl⟩
  have HVI := hid hvi
  have c0 : W1.cell? ⟨hb, o, none⟩ = some vi := by rw [hvi, HO.out]; exact HP1.out.blk.cv HI.out
  have hl := HP1.out.blk.lt
  have hvo : vi.ownBlock ≠ some hb := by rw [hvi]; exact HP1.out.off i HI.out
  have HOW : Hid (W1.drew.ownsRow 0 28 5 vi (X i).length (fl ET (X i))) := by rw [hvi]; exact owns_below (HP1.out.own i HI.out) (Gr.refl _).drew.below
  have f1 := HP1.out.blk.fz o
  have hbl : b1 < W1.heap.size := (Array.getElem?_eq_some_iff.1 HBX.out).1
  obtain ⟨q0, q1, q2, q3, q4⟩ : W1.cell? ⟨b1, 0, none⟩ = some (.int .i64 x.1) ∧ W1.cell? ⟨b1, 0 + 1, none⟩ = some (.int .i64 x.2.1) ∧ W1.cell? ⟨b1, 0 + 2, none⟩ = some (.int .i64 x.2.2.1) ∧ W1.cell? ⟨b1, 0 + 3, none⟩ = some (.int .i64 x.2.2.2.1) ∧ W1.cell? ⟨b1, 0 + 4, none⟩ = some (.int .i64 x.2.2.2.2) := by simp [World.cell?, HBX.out]
  clear hvi
  go_region_law (refine step_app1 ET Try.underlying22 infoO rfl (by decide) rfl _ _ rfl 0 vi (X i).length _ rfl HOW.out x (by first | rfl | (go_simp; done)) HBG.out.1 HBG.out.2 (Nat.zero_le _) _ rfl _ ?_
                 intro g cap w3 ho3 hg3 hn3
                 have hk3 : Hid (Kp (fun k => vi.ownBlock = some k) W1 w3) := (Kp.of_gr (Gr.refl _).drew).trans (T := fun k => vi.ownBlock = some k) (Kp.grownBy hg3.out (fun _ h => h)) (fun _ _ h => h)
                 have d0 : w3.cell? ⟨hb, o, none⟩ = some vi := (hk3.out.cell hl hvo).trans c0
                 have f0 : w3.frozen? ⟨hb, o, none⟩ = false := (HP1.out.blk.kept (hk3.out.block hb hl hvo)).fz o
                 have l3 : hb < w3.heap.size := Nat.lt_of_lt_of_le hl hk3.out.size)
  all_goals (
    go_wp2_with fail
    go_end0
    have HG := HP1.out.grown HI.out (u := .slice (some ⟨g, 0, none⟩) ((X i).length + 1) cap) ho3.out (by rw [← HVI.out]; exact hk3.out) (fun k hk => by rw [← own_eq hk, ← HVI.out]; exact hn3.out)
    refine ⟨rfl, .slice (some ⟨g, 0, none⟩) ((X i).length + 1) cap, ?_⟩
    rw [HO.out]
    exact ⟨HG.1, (Kp.of_gr HG1.out).trans HG.2.1 (fun _ _ h => h), fun k hk => (HG.2.2 k hk).imp id (fun h => Nat.le_trans HG1.out.size h)⟩)

end Go.Proofs.Ytcdmgclkgojgaaa.Po
