import Derived.Test.YtcdmgclkgojgaaaPoLinkS
import Derived.Test.YtcdmgclkgojgaaaLStep
namespace Go.Proofs.Ytcdmgclkgojgaaa.Ps
open Go.RowKit Go.Sort
attribute [local go_sem ↓] Go.wp_at_zero Go.wp_at_succ

theorem upd_id {β : Type} (f : Nat → β) (i : Nat) : upd f i (f i) = f := by
  funext j
  by_cases e : j = i
  · rw [e, upd_self]
  · rw [upd_ne _ _ e]
/-- What a call may turn of a link. -/
def Trn (hb : Nat) (v : Value) (w w' : World) : Prop := Kp (fun k => k = hb ∨ v.ownBlock = some k) w w'
/-- Behind an append to a link's list. -/
theorem Pb.grown {w w3 : World} {hb W : Nat} {v : Nat → Value} {tk : Nat → Nat} {X : Nat → List Th} (h : Pb w hb W v tk X) {i : Nat} (hi : i < 64) {x : Th} {u : Value} (ho : w3.ownsRow 0 9 1 u ((X i).length + 1) (fl ET (X i) ++ ET.enc x))
    (hk : Kp (fun k => (v i).ownBlock = some k) w w3) (hn : ∀ g, u.ownBlock = some g → (v i).ownBlock = some g ∨ w.heap.size ≤ g) :
    Pb (w3.setCell ⟨hb, 1 + 2 * i, none⟩ u) hb W (upd v i u) (upd tk i (tk i)) (upd X i (X i ++ [x])) ∧ Trn hb (v i) w (w3.setCell ⟨hb, 1 + 2 * i, none⟩ u) ∧ ∀ g, u.ownBlock = some g → (v i).ownBlock = some g ∨ w.heap.size ≤ g := by
  have hB : Bk w3 hb W v tk := h.blk.kept (hk.block hb h.blk.lt (h.off i hi))
  obtain ⟨b1, b2⟩ := hB.setV hi u
  have hK : Trn hb (v i) w (w3.setCell ⟨hb, 1 + 2 * i, none⟩ u) := (hk.mono (fun _ h => Or.inr h)).trans b2 (fun _ _ h => Or.inl h)
  refine ⟨h.turn hi (by rw [upd_id]; exact b1) ?_ ?_ hK hn, hK, hn⟩
  · have := owns_kp b2 ho (fun k hk e => ?_)
    · exact owns_re this (by simp) (by rw [fl_append, fl_one])
    · subst e
      rcases hn k hk with h1 | h1
      · exact h.off i hi h1
      · exact absurd h.blk.lt (by omega)
  · have := h.le i hi
    simp; omega
set_option maxHeartbeats 2000000 in
theorem lput_any {hb W : Nat} {v : Nat → Value} {tk : Nat → Nat} {X : Nat → List Th} {i : Nat} (x : Th) (w : World) (h : Pb w hb W v tk X) (hi : i < 64) (hbig : ((X i).length + 1) * 16 ≤ 140737488355328) :
    Calls Try.prog 41 #[.pointer (some ⟨hb, 1 + 2 * i, none⟩), tv x] w fun e w' => e = .returned (.tuple #[]) ∧ ∃ u, Pb w' hb W (upd v i u) (upd tk i (tk i)) (upd X i (X i ++ [x])) ∧ Trn hb (v i) w w' ∧ ∀ g, u.ownBlock = some g → (v i).ownBlock = some g ∨ w.heap.size ≤ g := by
  have hmx : Try.prog.follows .mixedOrders = true := by kernel_rfl
  have HH := hid h
  have c0 := h.blk.cv hi
  have hl := h.blk.lt
  have HI := hid hi
  have HOW := hid (h.own i hi)
  obtain ⟨o, ho⟩ : ∃ o, o = 1 + 2 * i := ⟨_, rfl⟩
  rw [← ho] at c0 ⊢
  have HO := hid ho
  have hvo : (v i).ownBlock ≠ some hb := h.off i hi
  obtain ⟨vi, hvi⟩ : ∃ vi, vi = v i := ⟨_, rfl⟩
  rw [← hvi] at c0 hvo
  have HVI := hid hvi
  have HOW : Hid (w.ownsRow 0 9 1 vi (X i).length (fl ET (X i))) := by rw [hvi]; exact HOW.out
  have HBG : Hid (((X i).length + 1) * 16 ≤ 140737488355328 ∧ (X i).length + 1 ≤ maxLen) := ⟨hbig, by unfold maxLen; omega⟩
  clear h hi ho hvi hbig
  go_enter Try.func41, Try.ntmps41
  go_wp2_with (at_builtin; refine wpApp1 ET Try.underlying82 infoS rfl (by decide) rfl _ _ rfl 0 vi (X i).length _ rfl HOW.out x (by first | rfl | (go_simp; done)) HBG.out.1 HBG.out.2 (Nat.zero_le _) _ rfl _ ?_)
  intro g cap w3 ho3 hg3 hn3
  have hk3 : Kp (fun k => vi.ownBlock = some k) w w3 := Kp.grownBy hg3 (fun _ h => h)
  have HG := hid (HH.out.grown HI.out (u := .slice (some ⟨g, 0, none⟩) ((X i).length + 1) cap) ho3 (by rw [← HVI.out]; exact hk3) (fun k hk => by rw [← own_eq hk, ← HVI.out]; exact hn3))
  have f0 : w3.frozen? ⟨hb, o, none⟩ = false := (HH.out.blk.kept (hk3.block hb hl hvo)).fz o
  have d0 : w3.cell? ⟨hb, o, none⟩ = some vi := (hk3.cell hl hvo).trans c0
  have l3 : hb < w3.heap.size := Nat.lt_of_lt_of_le hl hk3.size
  clear ho3 hg3 hn3 hk3 c0 hl hvo HOW
  go_wp2
  go_end0
  refine ⟨rfl, .slice (some ⟨g, 0, none⟩) ((X i).length + 1) cap, ?_⟩
  rw [HO.out]
  exact HG.out
end Go.Proofs.Ytcdmgclkgojgaaa.Ps
