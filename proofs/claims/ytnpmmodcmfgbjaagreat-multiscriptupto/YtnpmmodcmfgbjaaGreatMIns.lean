import Derived.Test.YtnpmmodcmfgbjaaGreatMPut
namespace Go.Proofs.YtnpmmodcmfgbjaaGreat.Cn
open Go.RowKit Go.Sort
attribute [local go_sem ↓] Go.wp_at_zero Go.wp_at_succ

/-- A chain's block, whatever its list. -/
def Blk (w : World) (cb fb ff : Nat) (v : Value) : Prop := w.heap[cb]? = some (.cells #[fv fb, fv ff, v] 84 (0, 0))
theorem Blk.set {w : World} {cb fb ff : Nat} {v v2 : Value} {l2 : List Tm} (h : Blk w cb fb ff v) (ho : w.ownsRow 0 37 3 v2 l2.length (flT l2)) (hoff : v2.ownBlock ≠ some cb) : Ch (w.setCell ⟨cb, 2, none⟩ v2) cb fb ff v2 l2 ∧ Kp (fun k => k = cb) w (w.setCell ⟨cb, 2, none⟩ v2) := by
  have e := setCell_eq_setRow w cb 2 _ _ _ v2 h
  have hk : Kp (fun k => k = cb) w (w.setCell ⟨cb, 2, none⟩ v2) := by
    rw [e]
    exact ⟨rfl, rfl, rfl, by simp [World.setRow], fun k _ hne => setRow_other w cb k _ (by omega)⟩
  refine ⟨⟨?_, owns_kp hk ho (fun k hk he => hoff (he ▸ hk)), hoff⟩, hk⟩
  rw [e, setRow_heap w cb _ _ _ _ h]
  simp
theorem Blk.cells {w : World} {cb fb ff : Nat} {v : Value} (h : Blk w cb fb ff v) : w.cell? ⟨cb, 2, none⟩ = some v ∧ w.frozen? ⟨cb, 2, none⟩ = false ∧ cb < w.heap.size := by
  unfold Blk at h
  exact ⟨by simp [World.cell?, h], by simp [World.frozen?, h], (Array.getElem?_eq_some_iff.1 h).1⟩

set_option maxHeartbeats 2000000 in
set_option maxRecDepth 100000 in
theorem insert_any {cb fb ff : Nat} {v : Value} {l : List Tm} {bel fst : Tm → Tm → Bool} (x : Tm) (w : World) (hc : Ch w cb fb ff v l) (hl : (l.length + 1) * 24 ≤ 140737488355328) (hB : FnOk fb bel) (hF : FnOk ff fst) :
    Calls Tryz.prog 68 #[.pointer (some ⟨cb, 0, none⟩), tv x] w fun e w' => ∃ v', e = .returned (.bool (!ccov bel l x)) ∧ Ch w' cb fb ff v' (cins bel fst l x) ∧ Turn cb v v' w w' := by
  obtain ⟨W1, hW1⟩ : ∃ W1, W1 = w.alloc (.cells #[.int .u64 x.1.1, .int .u64 x.1.2.1, .int .u64 x.1.2.2] 37) := ⟨_, rfl⟩
  have G1 : Gr w W1 := by rw [hW1]; exact (Gr.refl _).alloc _
  have hz : w.heap.size < W1.heap.size := by rw [hW1]; simp
  have HB1 : Hid (W1.cell? ⟨w.heap.size, 0, none⟩ = some (.int .u64 x.1.1)) := by rw [hW1]; simp [Hid]
  have HB2 : Hid (W1.cell? ⟨w.heap.size, 1, none⟩ = some (.int .u64 x.1.2.1)) := by rw [hW1]; simp [Hid]
  have HB3 : Hid (W1.cell? ⟨w.heap.size, 2, none⟩ = some (.int .u64 x.1.2.2)) := by rw [hW1]; simp [Hid]
  have hc1 := hc.below G1.below
  have h1 := covers_any x W1 hc1 (by omega) hB
  have HC : Hid (Ch w cb fb ff v l) := hc
  have HZ : Hid (w.heap.size < W1.heap.size) := hz
  cases hcv : ccov bel l x with
  | true =>
    have HE : Hid (cins bel fst l x = l) := by unfold cins; rw [hcv]; simp [Hid]
    rw [hcv] at h1
    rw [HE.out]
    clear hcv hc hc1 hz
    subst hW1
    go_enter Tryz.func68, Tryz.ntmps68
    go_wp2_with fail
    refine h1.mono ?_
    rintro e w2 ⟨rfl, hg2⟩
    go_wp2
    go_ret
    exact ⟨v, rfl, HC.out.below (G1.trans hg2).below, Turn.of_below (G1.trans hg2).below⟩
  | false =>
    have HE : Hid (cins bel fst l x = cput fst (ccut bel l x) x) := by unfold cins; rw [hcv]; simp [Hid]
    rw [hcv] at h1
    rw [HE.out]
    have h2 := fun (W : World) (hW : Gr W1 W) => staying_any (bel := bel) x W (hc1.below hW.below) (by omega) hB
    have hml := ccut_length (bel := bel) l x
    generalize hm : ccut bel l x = m at *
    clear hcv hc hc1 hz hm
    subst hW1
    go_enter Tryz.func68, Tryz.ntmps68
    go_wp2_with fail
    refine h1.mono ?_
    rintro e w2 ⟨rfl, hg2⟩
    have a1 := (hg2.cell HZ.out).trans HB1.out
    have a2 := (hg2.cell HZ.out).trans HB2.out
    have a4 := (hg2.cell HZ.out).trans HB3.out
    have a3 := Nat.lt_of_lt_of_le HZ.out hg2.size
    have h2' := h2 w2 hg2
    have A2 : Hid (Below w.heap.size w w2) := (G1.trans hg2).below
    clear h1 h2
    go_wp2_with fail
    refine h2'.mono ?_
    rintro e w3 ⟨v3, rfl, ho3, hb3, hor⟩
    have b1 := (hb3.cell (p := ⟨w.heap.size, 0, none⟩) a3).trans a1
    have b2 := (hb3.cell (p := ⟨w.heap.size, 1, none⟩) a3).trans a2
    have b4 := (hb3.cell (p := ⟨w.heap.size, 2, none⟩) a3).trans a4
    have b3 := Nat.lt_of_lt_of_le a3 hb3.size
    have A3 : Hid (Below w.heap.size w w3) := A2.out.trans (hb3.mono (Nat.le_of_lt a3))
    have hc3 : Hid (Ch w3 cb fb ff v l) := HC.out.below A3.out
    have h3 := place_any x w3 hc3.out (owns_lst ho3) (by omega) hF
    have hpl : m.findIdx (fun y => fst x y) ≤ m.length := List.findIdx_le_length
    have HPL : Hid (cput fst m x = m.take (m.findIdx fun y => fst x y) ++ x :: m.drop (m.findIdx fun y => fst x y)) := rfl
    generalize List.findIdx (fun y => fst x y) m = at_ at *
    have HO3 : Hid (w3.ownsRow 0 37 3 v3 m.length (flT m)) := ho3
    have HOR : Hid (v3 = v ∨ ∀ g, v3.ownBlock = some g → w2.heap.size ≤ g) := hor
    clear a1 a2 a4 h2' ho3 hor
    go_wp2_with fail
    refine h3.mono ?_
    rintro e w4 ⟨rfl, hg4⟩
    have c1 := (hg4.cell b3).trans b1
    have c2 := (hg4.cell b3).trans b2
    have c4 := (hg4.cell b3).trans b4
    have c3 := Nat.lt_of_lt_of_le b3 hg4.size
    have h4 := put_any v3 m at_ x w4 (owns_below HO3.out hg4.below) hpl (by omega)
    clear b1 b2 b4 h3
    go_wp2_with fail
    refine h4.mono ?_
    rintro e w5 ⟨g, cap, rfl, ho5, hk5, hor5⟩
    have hlt := HC.out.lt
    have hnoff : v3.ownBlock ≠ some cb := by
      intro h
      rcases HOR.out with rfl | h'
      · exact HC.out.off h
      · have := h' cb h; omega
    have A4 : Hid (Below w.heap.size w w4) := A3.out.trans (hg4.below.mono (Nat.le_of_lt b3))
    have hblk4 : Blk w4 cb fb ff v := (HC.out.below A4.out).blk
    have hblk5 : Blk w5 cb fb ff v := (hk5.block cb (Nat.lt_trans hlt c3) hnoff).trans hblk4
    obtain ⟨d1, d2, d3⟩ := hblk5.cells
    clear c1 c2 c4 h4
    go_wp2
    go_ret
    have hgcb : (Value.slice (some ⟨g, 0, none⟩) (m.length + 1) cap).ownBlock ≠ some cb := by
      simp only [Value.ownBlock]
      intro h
      rcases hor5 with h' | h'
      · exact hnoff (h'.trans h)
      · simp at h; omega
    have hlen : (cput fst m x).length = m.length + 1 := cput_length m x
    obtain ⟨hch, hks⟩ := hblk5.set (v2 := .slice (some ⟨g, 0, none⟩) (m.length + 1) cap) (l2 := cput fst m x) (by rw [hlen, HPL.out]; exact ho5) hgcb
    refine ⟨_, rfl, hch, ⟨?_, ?_⟩⟩
    · refine ((Kp.of_below A4.out).trans hk5 (fun j hj h => ?_)).trans hks (fun j _ h => Or.inl h)
      rcases HOR.out with rfl | h'
      · exact Or.inr h
      · have := h' j h; omega
    · intro g' hg'
      simp [Value.ownBlock] at hg'
      subst hg'
      rcases hor5 with h' | h'
      · rcases HOR.out with rfl | h''
        · exact Or.inl h'
        · right; have := h'' _ h'; omega
      · right; omega
end Go.Proofs.YtnpmmodcmfgbjaaGreat.Cn
