import Derived.Test.YtijbmchgajhkeaaSuAdd
import Derived.Test.YtijbmchgajhkeaaSuDel
namespace Go.Proofs.Ytijbmchgajhkeaa
open Go.RowKit Go.Sort Go.Maps Go.Shelf
open Tt (Tl)
attribute [local go_sem ↓] Go.wp_at_zero Go.wp_at_succ

/-- The map of tallies: nil, or a block. -/
theorem Su.keys {w : World} {S : Nat → Prop} {N sb : Nat} {A : List Ct} (h : Su w S N sb A) : ∃ o D, w.cell? ⟨sb, 1, none⟩ = some (.map o) ∧ Mok w o N D ∧ Maps.size D ≤ N ∧ ∀ t, Maps.has D (ZT.lit t) = true ↔ Hld A t := by
  rcases h with ⟨rfl, o, h2, h3, h4⟩ | ⟨mb, kb, T, B, h1, h2⟩
  · have hn : ∀ t : Tm, ¬ Hld ([] : List Ct) t := fun t ⟨c, hc, _⟩ => by cases hc
    cases o with
    | none => exact ⟨none, .map [], by simp [World.cell?, h2], rfl, Nat.zero_le _, fun t => ⟨fun h => (by cases h), fun h => absurd h (hn t)⟩⟩
    | some kb =>
      obtain ⟨D, h5, h6, h7⟩ := (h4 kb rfl).2
      exact ⟨some kb, D, by simp [World.cell?, h2], h5, h5.size_le, fun t => by rw [h7 t]; exact ⟨fun h => (by cases h), fun h => absurd h (hn t)⟩⟩
  · obtain ⟨D, h5, h6, h7⟩ := h1.mp
    exact ⟨some kb, D, h1.c1, h5, h5.size_le, fun t => by rw [h7 t]; exact h2 t⟩
theorem ksd_tms {D : DataW Unit} {A : List Ct} {ss : List Tm} (h : Ksd D ss) (hD : ∀ t, Maps.has D (ZT.lit t) = true ↔ Hld A t) : stT ss = tms A :=
  tms_eq (stT_sorted h.1) fun t => by rw [srtBy_mem]; exact (h.2 t).trans (hD t)
set_option maxHeartbeats 1000000 in
theorem times_any {S : Nat → Prop} {N sb : Nat} {A : List Ct} (w : World) (h : Su w S N sb A) (hN : N ≤ 1000000000) :
    Calls Try.prog 9 #[.pointer (some ⟨sb, 0, none⟩)] w fun e w' => ∃ v, e = .returned v ∧ w'.ownsRow w.heap.size 32 3 v (tms A).length (flT (tms A)) ∧ Below w.heap.size w w' ∧ (tms A).length ≤ N := by
  obtain ⟨o, D, h1, h2, h3, h4⟩ := h.keys
  have hlt := h.lt
  have hk := mkeys_any o w
  obtain ⟨W1, hW1⟩ : ∃ W1, W1 = w.alloc (.cells #[.map o] 63) := ⟨_, rfl⟩
  have G1 : Gr w W1 := by rw [hW1]; exact (Gr.refl _).alloc _
  have hs := sortedFunc_any w.heap.size N o D W1 (by rw [hW1]; simp) (by rw [hW1]; simp) (h2.below G1.below) (by omega)
  rw [← hW1] at hk
  have H4 := hid h4
  have H3 := hid h3
  clear h h2 h3 h4
  go_enter Try.func9, Try.ntmps9
  go_wp2_with fail
  refine hk.mono ?_
  rintro e w1 ⟨rfl, rfl⟩
  clear hW1
  go_wp2_with fail
  refine hs.mono ?_
  rintro e w2 ⟨v, ss, rfl, hS, hl, hrow, hB⟩
  have e1 := ksd_tms hS H4.out
  go_wp2
  go_ret
  refine ⟨v, rfl, ?_, G1.below.trans (hB.mono G1.size), ?_⟩
  · rw [← e1]
    exact owns_base hrow G1.size
  · rw [← e1, srtBy_length]
    exact Nat.le_trans hl H3.out
/-- What is ready at a list of times. -/
def rdy (A : List Ct) (F : List Tm) : List Tm := (tms A).filter fun t => !ccov bel F t
theorem owns_at {w : World} {base b' : Nat} {e : TypeId} {s g c n : Nat} {xs : List Value} (h : w.ownsRow base e s (.slice (some ⟨g, 0, none⟩) n c) n xs) (hb : b' ≤ g) : w.ownsRow b' e s (.slice (some ⟨g, 0, none⟩) n c) n xs := by
  obtain ⟨h1, ⟨h2, _⟩ | ⟨g', cap, cur, hv, hg, r⟩⟩ := h
  · cases h2
  · cases hv
    exact ⟨h1, .inr ⟨g, c, cur, rfl, hb, r⟩⟩
set_option maxHeartbeats 1000000 in
theorem ready1_any (v : Value) (F : List Tm) (x : Tm) (B : Nat) (w : World) (hB : B < w.heap.size) (hc : w.cell? ⟨B, 0, none⟩ = some v) (hv : Lst w v F) (hF : F.length ≤ maxLen) :
    Calls Try.prog 27 #[tv x, .pointer (some ⟨B, 0, none⟩)] w fun e w' => e = .returned (.bool (ccov bel F x)) ∧ Gr w w' := by
  obtain ⟨W1, hW1⟩ : ∃ W1, W1 = w.alloc (.cells #[.int .u64 x.1.1, .int .u64 x.1.2.1, .int .u64 x.1.2.2] 32) := ⟨_, rfl⟩
  have G1 : Gr w W1 := by rw [hW1]; exact (Gr.refl _).alloc _
  have h := sopen_any v F x W1 (hv.below G1.below) hF
  generalize ccov bel F x = r at h ⊢
  obtain ⟨p, c, rfl⟩ := hv.form
  have hne : B ≠ w.heap.size := by omega
  clear hv
  subst hW1
  go_enter Try.func27, Try.ntmps27
  go_wp2_with fail
  refine h.mono ?_
  rintro e w1 ⟨rfl, hg⟩
  go_wp2
  go_ret
  exact ⟨rfl, G1.trans hg⟩
set_option maxHeartbeats 1000000 in
theorem deleteFunc_nil (gf : Nat) (lb : Array Value) (w : World) (eg : ∀ args w, (callFunc gf args).run Try.prog w = .ok (.enter gf args) w) (p : Tm → Bool) (hp : Cn.PredG gf lb p w) :
    Calls Try.prog 26 #[.slice none 0 0, .func (.func gf) #[] lb] w fun e w' => e = .returned (.slice none 0 0) ∧ Gr w w' := by
  have h := Cn.indexFunc_any (.slice none 0 0) [] gf lb p w (Ls.nil w) (Nat.zero_le _) eg hp
  rw [show Cn.idxv p [] = -1 from rfl] at h
  clear hp
  go_enter Try.func26, Try.ntmps26
  go_wp2_with fail
  refine h.mono ?_
  rintro e w1 ⟨rfl, hg1⟩
  go_wp2
  go_ret
  exact ⟨rfl, hg1⟩
set_option maxHeartbeats 1000000 in
theorem ready_any {S : Nat → Prop} {N sb : Nat} {A : List Ct} (v : Value) (F : List Tm) (w : World) (h : Su w S N sb A) (hN : N ≤ 1000000000) (hv : Lst w v F) (hF : F.length ≤ maxLen) :
    Calls Try.prog 10 #[.pointer (some ⟨sb, 0, none⟩), v] w fun e w' => ∃ v', e = .returned v' ∧ w'.ownsRow w.heap.size 32 3 v' (rdy A F).length (flT (rdy A F)) ∧ Below w.heap.size w w' ∧ (rdy A F).length ≤ N := by
  obtain ⟨W1, hW1⟩ : ∃ W1, W1 = w.alloc (.cells #[v] 23) := ⟨_, rfl⟩
  have G1 : Gr w W1 := by rw [hW1]; exact (Gr.refl _).alloc _
  obtain ⟨b1, hb1⟩ : ∃ b1, b1 = w.heap.size := ⟨_, rfl⟩
  have hc1 : W1.cell? ⟨b1, 0, none⟩ = some v := by rw [hW1, hb1]; simp
  have hl1 : b1 < W1.heap.size := by rw [hW1, hb1]; simp
  have ht := times_any W1 (h.below G1.below) hN
  have HV := hid hv
  have HB1 : Hid (b1 = w.heap.size) := hb1
  obtain ⟨p, c, rfl⟩ := hv.form
  have eg := enters_of Try.func27 (by kernel_rfl) rfl
  clear h hv
  go_enter Try.func10, Try.ntmps10
  go_wp2_with fail
  rw [← hW1, ← hb1]
  clear hW1 hb1
  refine ht.mono ?_
  rintro e W2 ⟨u, rfl, hrow, hB, hlen⟩
  have HPr : Hid (∀ (W : World) (x : Tm), (∀ k, k < W1.heap.size → W.heap[k]? = W1.heap[k]?) → W1.heap.size ≤ W.heap.size → Calls Try.prog 27 (#[tv x] ++ #[.pointer (some ⟨b1, 0, none⟩)]) W fun e w' => e = .returned (.bool (ccov bel F x)) ∧ Gr W w') := fun W x hW hs =>
    ready1_any _ F x b1 W (Nat.lt_of_lt_of_le hl1 hs) ((World.cell?_of_block (a := ⟨b1, 0, none⟩) (hW b1 hl1)).trans hc1) ((HV.out.below G1.below).kept hs fun g hg => hW g ((HV.out.below G1.below).blk g hg)) hF
  have HB := hid hB
  have HR := hid hrow
  have HL : Hid ((rdy A F).length ≤ N) := Nat.le_trans (List.length_filter_le _ _) hlen
  rcases id hrow.2 with ⟨rfl, hz⟩ | ⟨g, cap, cur, rfl, hbase, hgb, r1, r2, r3, r4⟩
  · have hz' : tms A = [] := List.eq_nil_of_length_eq_zero hz
    have hd := deleteFunc_nil 27 #[.pointer (some ⟨b1, 0, none⟩)] W2 eg (ccov bel F) (fun W x hg => HPr.out W x (fun k hk => (hg.below.block k (Nat.lt_of_lt_of_le hk HB.out.size)).trans (HB.out.block k hk)) (Nat.le_trans HB.out.size hg.size))
    have HE : Hid (rdy A F = []) := by unfold rdy; rw [hz']; rfl
    clear hrow hB hz hz' hc1 hl1
    go_wp2_with fail
    refine hd.mono ?_
    rintro e w3 ⟨rfl, hg3⟩
    go_wp2
    go_ret
    refine ⟨.slice none 0 0, rfl, ?_, (G1.below.trans (HB.out.mono G1.size)).trans (hg3.below.mono (Nat.le_trans G1.size HB.out.size)), HL.out⟩
    rw [HE.out]
    exact World.ownsRow_nil _ _ _ _
  · have hd := deleteFunc_any (base := W1.heap.size) g cap (tms A) 27 #[.pointer (some ⟨b1, 0, none⟩)] (ccov bel F) W2 HR.out (by omega) eg (fun W x hk => HPr.out W x (fun k hk2 => (hk.block k (Nat.lt_of_lt_of_le hk2 HB.out.size) (by omega)).trans (HB.out.block k hk2)) (Nat.le_trans HB.out.size hk.size))
    clear hrow hB hc1 hl1 r1 r2 r3 r4 hgb
    go_wp2_with fail
    refine hd.mono ?_
    rintro e w3 ⟨c', rfl, ho3, hk3⟩
    go_wp2
    go_ret
    refine ⟨_, rfl, owns_at ho3 (Nat.le_trans G1.size hbase), (G1.below.trans (HB.out.mono G1.size)).trans (hk3.below (Nat.le_trans G1.size HB.out.size) fun k hk => by rw [hk]; exact Nat.le_trans G1.size hbase), HL.out⟩
end Go.Proofs.Ytijbmchgajhkeaa
