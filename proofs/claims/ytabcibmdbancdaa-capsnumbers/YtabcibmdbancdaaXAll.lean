import Derived.Test.YtabcibmdbancdaaXRow
namespace Go.Proofs.Ytabcibmdbancdaa
open Go.RowKit Go.Sort Go.Maps Go.Shelf
attribute [local go_sem ↓] Go.wp_at_zero Go.wp_at_succ

/-- slices.Sort's two contracts at this dump. -/
theorem sorts (m : Nat) : AnyZI.SortsIn Try.prog Try.lSorted_ren Fence.wide m :=
  ⟨fun blk off cap ss W hH hblk hsz => callsIn_wide.2 (AnyM.slices_Sort_int Try.lSort blk off cap ss W hH hblk hsz),
   fun p cap W => callsIn_wide.2 (AnyM.slices_Sort_int_none Try.lSort p cap W)⟩
theorem keys_any (mb : Option Nat) (W : World) : Calls Try.prog 20 #[.map mb] W fun e w' => e = .returned (.func (.func 31) #[] #[.pointer (some ⟨W.heap.size, 0, none⟩)]) ∧ w' = W.alloc (.cells #[.map mb] 55) :=
  (callsIn_wide (n := 5)).1 (AnyZI.keys_in Try.lKeys Fence.wide 5 trivial rfl mb W)
theorem sorted_le {last : Int} {L : List Hd} (h : Ri last L) {ss : List Int} (hp : ss.Perm (L.map (·.1))) : ss.mergeSort (fun x y => decide (x ≤ y)) = L.map (·.1) := by
  rw [mergeSort_of_perm_i hp]
  refine List.mergeSort_of_pairwise ?_
  rw [List.pairwise_map]
  exact h.up.imp fun {a b} hab => by simp; omega
theorem fl_int (l : List Int) : fl EI l = l.map (Value.int .i64) := by
  induction l with
  | nil => rfl
  | cons x l ih => rw [fl_cons, ih]; rfl
theorem sorted_any {b : Nat} {last : Int} {L : List Hd} (W : World) (h : Hm W b L) (hr : Ri last L) (hl : L.length ≤ 3000000000000) :
    Calls Try.prog 19 #[.func (.func 31) #[] #[.pointer (some ⟨W.heap.size, 0, none⟩)]] (W.alloc (.cells #[.map (some b)] 55)) fun e w' =>
      ∃ v, e = .returned v ∧ Ls EI w' v (L.map (·.1)) ∧ (∀ q, v.ownBlock = some q → W.heap.size + 1 ≤ q) ∧ Below (W.heap.size + 1) (W.alloc (.cells #[.map (some b)] 55)) w' := by
  obtain ⟨D, hown, h1, h2, h3⟩ := h
  have hbl := hown.lt
  have hsz := size_eq hown h1 h3
  have hpm := keys_perm' hown h1 h3
  have hseq : SeqGives Fence.wide 2 Try.prog 31 #[.pointer (some ⟨W.heap.size, 0, none⟩)] encZ (fun ss => ss.Perm (intKeys D)) (Maps.size D) (W.alloc (.cells #[.map (some b)] 55)) :=
    AnyZI.keys_gives (ρ := Try.lKeys_ren) { Try.lKeys with } Fence.wide _ trivial rfl (by omega) W.heap.size b L.length D _ (by simp) (by simp) (by
      obtain ⟨es, clock, hb, Ft, hs, hD⟩ := hown
      exact ⟨es, clock, (Below.heap_alloc _ _ b hbl).trans hb, Ft, hs, hD⟩)
  have cS := AnyZI.sorted_in Try.lSorted Fence.wide 5 trivial trivial trivial trivial rfl (by omega) (sorts _) (enters_of Try.func30 (by kernel_rfl) rfl) 31 #[.pointer (some ⟨W.heap.size, 0, none⟩)] trivial (enters_of Try.func31 (by kernel_rfl) rfl) _ _ (by unfold maxLen; omega) (by omega) _ hseq
  refine (callsIn_wide.1 cS).mono ?_
  rintro e w' ⟨v, ss, rfl, hp, hrow, hnil, hb⟩
  rw [sorted_le hr (hp.trans hpm.symm)] at hrow
  refine ⟨v, rfl, ?_, fun q hq => by have := (hrow.lt q hq).1; simpa using this, hb.mono (by simp)⟩
  have hlen : ss.length = (L.map (·.1)).length := (hp.trans hpm.symm).length_eq
  rw [hlen] at hrow
  exact owns_ls (E := EI) (by rw [fl_int]; exact hrow)

set_option maxRecDepth 100000 in
set_option maxHeartbeats 4000000 in
/-- All: what is held, as new memory. -/
theorem all_any {tb b : Nat} {most last : Int} {L : List Hd} (w : World) (h : Cs w tb b most last L) (hl : last < 3000000000000) :
    Calls Try.prog 12 #[.pointer (some ⟨tb, 0, none⟩)] w fun e w' => ∃ g cap, e = .returned (.slice (some ⟨g, 0, none⟩) L.length cap) ∧
      w'.ownsRow w.heap.size 38 5 (.slice (some ⟨g, 0, none⟩) L.length cap) L.length (fl EH L) ∧ Below w.heap.size w w' := by
  obtain ⟨i0, hi, hz0, hz1, hz2⟩ := info_parts infoH
  have HC : Hid (Cs w tb b most last L) := h
  have c2 := h.c2
  have hlt := h.lt
  have hLl := h.ri.len h.lo
  have hLn : L.length < 3000000000000 := by omega
  have hlen := h.len
  clear h
  go_enter Try.func12, Try.ntmps12
  go_upto_region 4 with (at_make; refine wpList_make_own _ rfl _ _ 26 rfl w.heap.size 38 i0 (hv (0, 0, 0, 0, 0)) 5 Try.underlying26 hi hz0 hz1 _ _ _ L.length rfl rfl rfl (by rw [hz2]; omega) (by unfold maxLen; omega) (Nat.le_refl _) ?_; intro w1 hrow1 hg1)
  have b1 : Below w.heap.size w w1 := (Below.refl _ _).grown hg1 (Nat.le_refl _) (fun j hj => by cases hj)
  have hlt1 := Nat.lt_of_lt_of_le hlt b1.size
  have c21 := (b1.cell (p := ⟨tb, 2, none⟩) hlt).trans c2
  have hso := sorted_any w1 (HC.out.below b1).mp HC.out.ri (by omega)
  go_wp2_with fail
  refine (keys_any _ _).mono ?_
  rintro e w2 ⟨rfl, rfl⟩
  go_wp2_with fail
  refine hso.mono ?_
  rintro e w2 ⟨vs, rfl, hvs, hvb, b2⟩
  clear hso
  have B2 : Hid (Below w.heap.size w w2) := (b1.trans (((Gr.refl w1).alloc _).below.mono b1.size)).trans (b2.mono (by have := b1.size; omega))
  have hz1 : w.heap.size < w1.heap.size := by have := (hrow1.lt w.heap.size rfl).2; omega
  have R2 : Hid (w2.ownsRow w.heap.size 38 5 (.slice (some ⟨w.heap.size, 0, none⟩) 0 L.length) 0 []) := owns_kp (S := fun k => w1.heap.size + 1 ≤ k) (Kp.of_below (b2.mono (by simp))) (owns_below hrow1 ((Gr.refl w1).alloc _).below) (fun k hk hs => by simp [Value.ownBlock] at hk; omega)
  obtain ⟨ps, cs, rfl⟩ := hvs.form
  rw [List.length_map] at hvs hvb ⊢
  have HV : Hid (Ls EI w2 (.slice ps L.length cs) (L.map (·.1))) := hvs
  have HB : Hid (∀ q, (Value.slice ps L.length cs).ownBlock = some q → w1.heap.size + 1 ≤ q) := hvb
  clear hrow1 hvs hvb b1 b2 hg1 c21 hlen
  go_wp2_with fail
  go_loopw [3, 21] (fun s3 s21 wr => ∃ (k g cap : Nat), k ≤ L.length ∧ s21 = .int .i64 (k : Nat) ∧ s3 = .slice (some ⟨g, 0, none⟩) k cap ∧ wr.ownsRow w.heap.size 38 5 (.slice (some ⟨g, 0, none⟩) k cap) k (fl EH (L.take k)) ∧
      Below w.heap.size w wr ∧ Ls EI wr (.slice ps L.length cs) (L.map (·.1)) ∧ (∀ q, (Value.slice ps L.length cs).ownBlock = some q → q ≠ g)) (fun _ s21 _ => L.length - (RowKit.intOf s21).toNat)
  case atStart => exact ⟨0, w.heap.size, L.length, Nat.zero_le _, rfl, rfl, R2.out, B2.out, HV.out, fun q hq => by have := HB.out q hq; omega⟩
  case round =>
    obtain ⟨k, g, cap, hk, rfl, rfl, hrow, hB, hV, hq⟩ := hrel
    by_cases hkl : k < L.length
    · have hltz : (k : Int) < (L.length : Int) := by omega
      have hk0 : (0 : Int) ≤ (k : Int) := by omega
      obtain ⟨h, hh⟩ : ∃ h, L[k]? = some h := ⟨L[k], by simp⟩
      obtain ⟨b1, o1, c1, e1, z1, x0⟩ := hV.atI (j := k) (t := h.1) (by rw [List.getElem?_map, hh]; rfl)
      rw [List.length_map] at e1
      simp only [Value.slice.injEq] at e1
      obtain ⟨rfl, -, rfl⟩ := e1
      have hmem : h ∈ L := List.mem_of_getElem? hh
      have hw : (Lit.int .i64 h.1).wf = true := WalkArith.wf_i64 (by have := HC.out.ri.bd h hmem; omega)
      have hlk := (HC.out.below hB).mp.look h.1 h.2 hw (mem_look HC.out.ri.up hmem)
      have c2r := (hB.cell (p := ⟨tb, 2, none⟩) hlt).trans c2
      have hltr := Nat.lt_of_lt_of_le hlt hB.size
      have HR := hid hrow
      have HBr := hid hB
      have HVr := hid hV
      have HQ := hid hq
      have HH := hid hh
      have hBs := hB.size
      clear hrow hB hV hq hh hmem
      obtain ⟨id, p, x, y, z⟩ := h
      go_wp2_with (at_builtin; refine wpApp1 EH Try.underlying26 infoH rfl (by decide) rfl _ _ rfl w.heap.size (.slice (some ⟨g, 0, none⟩) k cap) k _ rfl HR.out (id, p, x, y, z) (by first | rfl | simp) (by omega) (by unfold maxLen; omega) hBs _ rfl _ ?_; intro g' cap' w' hown' hg' hgb; go_frame)
      go_roundw
      case rel =>
        have hgg : ∀ q, (Value.slice (some ⟨b1, o1, none⟩) L.length cs).ownBlock = some q → q ≠ g' := fun q hq => by
          rcases hgb with hgb | hgb
          · simp [Value.ownBlock] at hgb
            subst hgb
            exact HQ.out q hq
          · simp [Value.ownBlock] at hq
            omega
        refine ⟨k + 1, g', cap', by omega, by go_num, rfl, ?_, ?_, ?_, hgg⟩
        · have e := List.take_add_one (l := L) (i := k)
          rw [HH.out] at e
          rw [e, fl_append]
          exact hown'
        · exact HBr.out.grown hg' hBs (fun j hj => (HR.out.lt j hj).1)
        · exact (Kp.grownBy (S := fun k => k = g) hg' (fun j hj => by simp [Value.ownBlock] at hj; omega)).ls HVr.out (fun q hq e => HQ.out q hq e)
      case measure => simp [RowKit.intOf]; omega
    · have hltz : ¬ (k : Int) < (L.length : Int) := by omega
      obtain rfl : k = L.length := by omega
      go_wp2_with fail
      go_ret
      exact ⟨g, cap, rfl, by rw [List.take_length] at hrow; exact hrow, hB⟩
end Go.Proofs.Ytabcibmdbancdaa
