import Derived.Test.YtpglheijiolcgaaWPut
import Derived.Test.YtpglheijiolcgaaCRest
namespace Go.Proofs.Ytpglheijiolcgaa.Wd
open Go.RowKit Go.Sort
attribute [local go_sem ↓] Go.wp_at_zero Go.wp_at_succ

/-- A chain's block, whatever its list. -/
def Blk (w : World) (cb fb ff : Nat) (v : Value) : Prop := w.heap[cb]? = some (.cells #[fv fb, fv ff, v] 72 (0, 0))
theorem Blk.set {w : World} {cb fb ff : Nat} {v v2 : Value} {l2 : List ByteArray} (h : Blk w cb fb ff v) (ho : w.ownsRow 0 9 1 v2 l2.length (flatP l2)) (hoff : v2.ownBlock ≠ some cb) : Ch (w.setCell ⟨cb, 2, none⟩ v2) cb fb ff v2 l2 ∧ Kp (fun k => k = cb) w (w.setCell ⟨cb, 2, none⟩ v2) := by
  have e := setCell_eq_setRow w cb 2 _ _ _ v2 h
  have hk : Kp (fun k => k = cb) w (w.setCell ⟨cb, 2, none⟩ v2) := by
    rw [e]
    exact ⟨rfl, rfl, rfl, by simp [World.setRow], fun k _ hne => setRow_other w cb k _ (by omega)⟩
  refine ⟨⟨?_, owns_kp hk ho (fun k hk he => hoff (he ▸ hk)), hoff⟩, hk⟩
  rw [e, setRow_heap w cb _ _ _ _ h]
  simp
theorem Blk.cells {w : World} {cb fb ff : Nat} {v : Value} (h : Blk w cb fb ff v) : w.cell? ⟨cb, 2, none⟩ = some v ∧ w.frozen? ⟨cb, 2, none⟩ = false ∧ cb < w.heap.size := by
  unfold Blk at h
  exact ⟨by simp [World.cell?, h], by simp [World.frozen?, h], (Array.getElem?_eq_some_iff.1 h).1⟩

set_option maxHeartbeats 2000000 in
set_option maxRecDepth 100000 in
theorem insert_any {cb fb ff : Nat} {v : Value} {l : List ByteArray} {bel fst : ByteArray → ByteArray → Bool} (x : ByteArray) (w : World) (hc : Ch w cb fb ff v l) (hl : (l.length + 1) * 16 ≤ 140737488355328) (hB : FnOk fb bel) (hF : FnOk ff fst) :
    Calls Try.prog 25 #[.pointer (some ⟨cb, 0, none⟩), pv x] w fun e w' => ∃ v', e = .returned (.bool (!ccov bel l x)) ∧ Ch w' cb fb ff v' (cins bel fst l x) ∧ Turn cb v v' w w' := by
  have h1 := covers_any x w hc (by omega) hB
  have HC : Hid (Ch w cb fb ff v l) := hc
  cases hcv : ccov bel l x with
  | true =>
    have HE : Hid (cins bel fst l x = l) := by unfold cins; rw [hcv]; simp [Hid]
    rw [hcv] at h1
    rw [HE.out]
    clear hcv hc
    go_enter Try.func25, Try.ntmps25
    go_wp2_with fail
    refine h1.mono ?_
    rintro e w2 ⟨rfl, hg2⟩
    go_wp2
    go_ret
    exact ⟨v, rfl, HC.out.below hg2.below, Turn.of_below hg2.below⟩
  | false =>
    have HE : Hid (cins bel fst l x = cput fst (ccut bel l x) x) := by unfold cins; rw [hcv]; simp [Hid]
    rw [hcv] at h1
    rw [HE.out]
    have h2 := fun (W : World) (hW : Gr w W) => staying_any (bel := bel) x W (hc.below hW.below) (by omega) hB
    have hml := ccut_length (bel := bel) l x
    generalize hm : ccut bel l x = m at *
    clear hcv hc hm
    go_enter Try.func25, Try.ntmps25
    go_wp2_with fail
    refine h1.mono ?_
    rintro e w2 ⟨rfl, hg2⟩
    have h2' := h2 w2 hg2
    have A2 : Hid (Below w.heap.size w w2) := hg2.below
    have a3 := hg2.size
    clear h1 h2
    go_wp2_with fail
    refine h2'.mono ?_
    rintro e w3 ⟨v3, rfl, ho3, hb3, hor⟩
    have A3 : Hid (Below w.heap.size w w3) := A2.out.trans (hb3.mono a3)
    have b3 := hb3.size
    have hc3 : Hid (Ch w3 cb fb ff v l) := HC.out.below A3.out
    have h3 := place_any x w3 hc3.out (owns_lst ho3) (by omega) hF
    have hpl : m.findIdx (fun y => fst x y) ≤ m.length := List.findIdx_le_length
    have HPL : Hid (cput fst m x = m.take (m.findIdx fun y => fst x y) ++ x :: m.drop (m.findIdx fun y => fst x y)) := rfl
    generalize List.findIdx (fun y => fst x y) m = at_ at *
    have HO3 : Hid (w3.ownsRow 0 9 1 v3 m.length (flatP m)) := ho3
    have HOR : Hid (v3 = v ∨ ∀ g, v3.ownBlock = some g → w2.heap.size ≤ g) := hor
    clear h2' ho3 hor
    go_wp2_with fail
    refine h3.mono ?_
    rintro e w4 ⟨rfl, hg4⟩
    have c3 := hg4.size
    have h4 := put_any v3 m at_ x w4 (owns_below HO3.out hg4.below) hpl (by omega)
    clear h3
    go_wp2_with fail
    refine h4.mono ?_
    rintro e w5 ⟨g, cap, rfl, ho5, hk5, hor5⟩
    have hlt := HC.out.lt
    have hnoff : v3.ownBlock ≠ some cb := by
      intro h
      rcases HOR.out with rfl | h'
      · exact HC.out.off h
      · have := h' cb h; omega
    have A4 : Hid (Below w.heap.size w w4) := A3.out.trans (hg4.below.mono (Nat.le_trans a3 b3))
    have hblk4 : Blk w4 cb fb ff v := (HC.out.below A4.out).blk
    have hblk5 : Blk w5 cb fb ff v := (hk5.block cb (by omega) hnoff).trans hblk4
    obtain ⟨d1, d2, d3⟩ := hblk5.cells
    clear h4
    go_wp2
    go_ret
    have hgcb : (Value.slice (some ⟨g, 0, none⟩) (m.length + 1) cap).ownBlock ≠ some cb := by
      simp only [Value.ownBlock]
      intro h
      rcases hor5 with h' | h'
      · exact hnoff (h'.trans h)
      · simp at h; omega
    have hlen : (cput fst m x).length = m.length + 1 := cput_length m x
    obtain ⟨hch, hks⟩ := hblk5.set (v2 := .slice (some ⟨g, 0, none⟩) (m.length + 1) cap) (l2 := cput fst m x) (by rw [hlen, HPL.out]; exact ho5) hgcb
    refine ⟨_, rfl, hch, ⟨?_, ?_⟩⟩
    · refine ((Kp.of_below A4.out).trans hk5 (fun j hj h => ?_)).trans hks (fun j _ h => Or.inl h)
      rcases HOR.out with rfl | h'
      · exact Or.inr h
      · have := h' j h; omega
    · intro g' hg'
      simp [Value.ownBlock] at hg'
      subst hg'
      rcases hor5 with h' | h'
      · rcases HOR.out with rfl | h''
        · exact Or.inl h'
        · right; have := h'' _ h'; omega
      · right; omega

set_option maxHeartbeats 1000000 in
theorem len_any {cb fb ff : Nat} {v : Value} {l : List ByteArray} (w : World) (hc : Ch w cb fb ff v l) :
    Calls Try.prog 28 #[.pointer (some ⟨cb, 0, none⟩)] w fun e w' => e = .returned (.int .i64 (l.length : Nat)) ∧ w' = w := by
  obtain ⟨pl, cl, rfl⟩ := hc.lst.form
  have k2 := hc.c2
  have kl := hc.lt
  go_enter Try.func28, Try.ntmps28
  go_wp2
  go_ret
  exact ⟨rfl, rfl⟩

set_option maxHeartbeats 1000000 in
theorem clone_any (v : Value) (l : List ByteArray) (w : World) (hv : Lst w v l) (hl : l.length * 16 ≤ 140737488355328) :
    Calls Try.prog 57 #[v] w fun e w' => ∃ v', e = .returned v' ∧ w'.ownsRow w.heap.size 9 1 v' l.length (flatP l) ∧ Below w.heap.size w w' := by
  have HV : Hid (Lst w v l) := hv
  have hen := fun (W : World) (a : Option Addr) (n c : Nat) => Lib.run_eql_slice_nil (P := Try.prog) W 40 9 a n c 0 0 Try.underlying40
  rcases hv with ⟨rfl, rfl⟩ | ⟨b, off, c, rfl, hb, ht⟩
  · go_enter Try.func57, Try.ntmps57
    go_wp2
    go_ret
    exact ⟨_, rfl, World.ownsRow_nil _ _ _ _, Below.refl _ _⟩
  · clear ht
    go_enter Try.func57, Try.ntmps57
    go_wp2_with (at_builtin; refine wpAppL rfl _ _ rfl w.heap.size (.slice (some ⟨w.heap.size, 0, none⟩) 0 0) 0 [] rfl (World.ownsRow_made w #[] 0 (Nat.le_refl _) (by unfold maxLen; omega) rfl) _ l rfl (HV.out.below ((Gr.refl w).alloc _).below) (by omega) (by simp) ?_)
    intro v' w' h1 h2
    go_wp2
    go_ret
    refine ⟨_, rfl, by simpa using h1, ?_⟩
    exact ((Gr.refl w).alloc _).below.trans ((Kp.grownBy (S := fun k => w.heap.size ≤ k) h2 (fun k hk => by simp [Value.ownBlock] at hk; omega)).below (by simp) (fun _ h => h))

set_option maxHeartbeats 1000000 in
theorem list_any {cb fb ff : Nat} {v : Value} {l : List ByteArray} (w : World) (hc : Ch w cb fb ff v l) (hl : l.length * 16 ≤ 140737488355328) :
    Calls Try.prog 26 #[.pointer (some ⟨cb, 0, none⟩)] w fun e w' => ∃ v', e = .returned v' ∧ w'.ownsRow w.heap.size 9 1 v' l.length (flatP l) ∧ Below w.heap.size w w' := by
  have h := clone_any v l w hc.lst hl
  have k2 := hc.c2
  have kl := hc.lt
  clear hc
  go_enter Try.func26, Try.ntmps26
  go_wp2_with fail
  refine h.mono ?_
  rintro e w1 ⟨v', rfl, h1, h2⟩
  go_wp2
  go_ret
  exact ⟨_, rfl, h1, h2⟩

theorem new_any (fb ff : Nat) (w : World) : Calls Try.prog 22 #[fv fb, fv ff] w fun e w' => e = .returned (.pointer (some ⟨w.heap.size, 0, none⟩)) ∧ Ch w' w.heap.size fb ff (.slice none 0 0) [] ∧ Gr w w' := by
  go_enter Try.func22, Try.ntmps22
  go_wp2
  go_ret
  exact ⟨rfl, ⟨heap_new' _ _, World.ownsRow_nil _ _ _ _, by simp [Value.ownBlock]⟩, (Gr.refl _).alloc _⟩

end Go.Proofs.Ytpglheijiolcgaa.Wd
