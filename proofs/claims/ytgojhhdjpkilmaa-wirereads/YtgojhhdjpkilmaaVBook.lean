import Derived.Test.YtgojhhdjpkilmaaVApart
namespace Go.Proofs.Ytgojhhdjpkilmaa.Wi
open Go.RowKit Go.Sort
attribute [local go_sem ↓] Go.wp_at_zero Go.wp_at_succ

theorem infoS : (Try.prog.info? 9).map (fun i => (i.zero, i.size, i.bytes)) = some (some (.string ByteArray.empty), 1, 16) := by kernel_rfl
/-- The book: lists as they came, and what they were. -/
structure Bok (w : World) (kb : Nat) (sl sw : Value) (n : Nat) (V : Nat → Value) (C : Nat → List UInt8) : Prop where
  blk : w.heap[kb]? = some (.cells #[sl, sw] 56 (0, 0))
  rl : w.ownsRow 0 22 1 sl n ((List.range n).map V)
  rw : w.ownsRow 0 9 1 sw n ((List.range n).map (fun i => tx (C i)))
  fam : Fam EB 5 w n V C
  n1 : sl.ownBlock ≠ some kb
  n2 : sw.ownBlock ≠ some kb
  n3 : ∀ k, sl.ownBlock = some k → sw.ownBlock ≠ some k
  n4 : ∀ q, SqF n V q → q ≠ kb ∧ sl.ownBlock ≠ some q ∧ sw.ownBlock ≠ some q
/-- Its blocks. -/
def KS (kb : Nat) (sl sw : Value) (n : Nat) (V : Nat → Value) (q : Nat) : Prop := q = kb ∨ sl.ownBlock = some q ∨ sw.ownBlock = some q ∨ SqF n V q
section
variable {w w' : World} {kb n : Nat} {sl sw : Value} {V : Nat → Value} {C : Nat → List UInt8}
theorem Bok.lt (h : Bok w kb sl sw n V C) : kb < w.heap.size := (Array.getElem?_eq_some_iff.1 h.blk).1
theorem Bok.c0 (h : Bok w kb sl sw n V C) : w.cell? ⟨kb, 0, none⟩ = some sl := by simp [World.cell?, h.blk]
theorem Bok.c1 (h : Bok w kb sl sw n V C) : w.cell? ⟨kb, 1, none⟩ = some sw := by simp [World.cell?, h.blk]
theorem Bok.in (h : Bok w kb sl sw n V C) : ∀ q, KS kb sl sw n V q → q < w.heap.size := by
  rintro q (rfl | hq | hq | ⟨i, hi, hq⟩)
  · exact h.lt
  · exact (h.rl.lt q hq).2
  · exact (h.rw.lt q hq).2
  · exact h.fam.lt hi q hq
theorem Bok.kp {S : Nat → Prop} (h : Bok w kb sl sw n V C) (hk : Kp S w w') (hS : ∀ q, KS kb sl sw n V q → ¬ S q) : Bok w' kb sl sw n V C :=
  ⟨(hk.block kb h.lt (hS kb (Or.inl rfl))).trans h.blk, owns_kp hk h.rl (fun q hq => hS q (Or.inr (Or.inl hq))), owns_kp hk h.rw (fun q hq => hS q (Or.inr (Or.inr (Or.inl hq)))), h.fam.kp hk (fun i hi g hg => hS g (Or.inr (Or.inr (Or.inr ⟨i, hi, hg⟩)))), h.n1, h.n2, h.n3, h.n4⟩
theorem Bok.below (h : Bok w kb sl sw n V C) (hb : Below w.heap.size w w') : Bok w' kb sl sw n V C := h.kp (S := fun _ => False) (Kp.of_below hb) (fun _ _ h => h)
end
theorem bk_set {w : World} {kb : Nat} {a b : Value} (h : w.heap[kb]? = some (.cells #[a, b] 56 (0, 0))) :
    (∀ a2, (w.setCell ⟨kb, 0, none⟩ a2).heap[kb]? = some (.cells #[a2, b] 56 (0, 0)) ∧ Kp (fun k => k = kb) w (w.setCell ⟨kb, 0, none⟩ a2)) ∧ (∀ b2, (w.setCell ⟨kb, 1, none⟩ b2).heap[kb]? = some (.cells #[a, b2] 56 (0, 0)) ∧ Kp (fun k => k = kb) w (w.setCell ⟨kb, 1, none⟩ b2)) := by
  refine ⟨fun v2 => ?_, fun n2 => ?_⟩
  · have e := setCell_eq_setRow w kb 0 _ _ _ v2 h
    rw [e]
    exact ⟨by rw [setRow_heap w kb _ _ _ _ h]; simp, rfl, rfl, rfl, by simp [World.setRow], fun k _ hne => setRow_other w kb k _ (by omega)⟩
  · have e := setCell_eq_setRow w kb 1 _ _ _ n2 h
    rw [e]
    exact ⟨by rw [setRow_heap w kb _ _ _ _ h]; simp, rfl, rfl, rfl, by simp [World.setRow], fun k _ hne => setRow_other w kb k _ (by omega)⟩
abbrev addV (n : Nat) (V : Nat → Value) (b : Value) : Nat → Value := fun i => if i = n then b else V i
abbrev addC (n : Nat) (C : Nat → List UInt8) (l : List UInt8) : Nat → List UInt8 := fun i => if i = n then l else C i
theorem range_add {α : Type} (n : Nat) (f : Nat → α) (x : α) : (List.range (n + 1)).map (fun i => if i = n then x else f i) = (List.range n).map f ++ [x] := by
  rw [List.range_succ, List.map_append]
  congr 1
  · refine List.map_congr_left fun i hi => ?_
    rw [if_neg (by have := List.mem_range.1 hi; omega)]
  · simp
/-- The book with one list more. -/
theorem Bok.add {w W1 W2 W3 W4 : World} {kb n : Nat} {sl sw b sl' sw' : Value} {V : Nat → Value} {C : Nat → List UInt8} {l : List UInt8} (h : Bok w kb sl sw n V C) (hb : Ow w b l) (hbn : ∀ q, b.ownBlock = some q → ¬ KS kb sl sw n V q)
    (o1 : W1.ownsRow 0 22 1 sl' (n + 1) ((List.range n).map V ++ [b])) (k1 : Kp (fun q => sl.ownBlock = some q) w W1) (l1 : ∀ q, sl'.ownBlock = some q → sl.ownBlock = some q ∨ w.heap.size ≤ q)
    (k2 : Kp (fun q => q = kb) W1 W2) (b2 : W2.heap[kb]? = some (.cells #[sl', sw] 56 (0, 0)))
    (o3 : W3.ownsRow 0 9 1 sw' (n + 1) ((List.range n).map (fun i => tx (C i)) ++ [tx l])) (k3 : Kp (fun q => sw.ownBlock = some q) W2 W3) (l3 : ∀ q, sw'.ownBlock = some q → sw.ownBlock = some q ∨ W2.heap.size ≤ q)
    (k4 : Kp (fun q => q = kb) W3 W4) (b4 : W4.heap[kb]? = some (.cells #[sl', sw'] 56 (0, 0))) :
    Bok W4 kb sl' sw' (n + 1) (addV n V b) (addC n C l) ∧ Kp (fun q => q = kb ∨ sl.ownBlock = some q ∨ sw.ownBlock = some q) w W4 ∧ ∀ q, KS kb sl' sw' (n + 1) (addV n V b) q → KS kb sl sw n V q ∨ b.ownBlock = some q ∨ w.heap.size ≤ q := by
  have z1 := k1.size
  have z2 := k2.size
  have z3 := k3.size
  have hbl := h.in
  have bl : ∀ q, b.ownBlock = some q → q < w.heap.size := fun q hq => (hb.lt q hq).2
  have swlt : ∀ q, sw.ownBlock = some q → q < w.heap.size := fun q hq => (h.rw.lt q hq).2
  have slkb : sl'.ownBlock ≠ some kb := fun e => by
    rcases l1 kb e with h1 | h1
    · exact h.n1 h1
    · have := h.lt; omega
  have swkb : sw'.ownBlock ≠ some kb := fun e => by
    rcases l3 kb e with h1 | h1
    · exact h.n2 h1
    · have := h.lt; omega
  have sl2 : ∀ q, sl'.ownBlock = some q → q < W1.heap.size := fun q hq => (o1.lt q hq).2
  have slsw : ∀ q, sl'.ownBlock = some q → sw.ownBlock ≠ some q := fun q hq e => by
    rcases l1 q hq with h1 | h1
    · exact h.n3 q h1 e
    · have := swlt q e; omega
  have sq : ∀ q, SqF (n + 1) (addV n V b) q → SqF n V q ∨ b.ownBlock = some q := by
    rintro q ⟨i, hi, hq⟩
    by_cases e : i = n
    · rw [addV, if_pos e] at hq; exact Or.inr hq
    · rw [addV, if_neg e] at hq; exact Or.inl ⟨i, by omega, hq⟩
  have sqlt : ∀ q, SqF (n + 1) (addV n V b) q → q < w.heap.size ∧ q ≠ kb ∧ sl.ownBlock ≠ some q ∧ sw.ownBlock ≠ some q := fun q hq => by
    rcases sq q hq with h1 | h1
    · exact ⟨hbl q (Or.inr (Or.inr (Or.inr h1))), (h.n4 q h1).1, (h.n4 q h1).2.1, (h.n4 q h1).2.2⟩
    · exact ⟨bl q h1, fun e => hbn q h1 (Or.inl e), fun e => hbn q h1 (Or.inr (Or.inl e)), fun e => hbn q h1 (Or.inr (Or.inr (Or.inl e)))⟩
  have f0 : Fam EB 5 w (n + 1) (addV n V b) (addC n C l) := by
    refine ⟨fun i hi => ?_, fun i j hi hj hij g hg e => ?_⟩
    · by_cases e : i = n
      · simp only [addV, addC, if_pos e]; exact hb
      · simp only [addV, addC, if_neg e]; exact h.fam.own i (by omega)
    · by_cases ei : i = n <;> by_cases ej : j = n
      · omega
      · simp only [addV, if_pos ei] at hg
        simp only [addV, if_neg ej] at e
        exact hbn g hg (Or.inr (Or.inr (Or.inr ⟨j, by omega, e⟩)))
      · simp only [addV, if_neg ei] at hg
        simp only [addV, if_pos ej] at e
        exact hbn g e (Or.inr (Or.inr (Or.inr ⟨i, by omega, hg⟩)))
      · simp only [addV, if_neg ei] at hg
        simp only [addV, if_neg ej] at e
        exact h.fam.far i j (by omega) (by omega) hij g hg e
  have kk : Kp (fun q => q = kb ∨ sl.ownBlock = some q ∨ sw.ownBlock = some q) w W4 :=
    (((k1.mono (fun _ h => Or.inr (Or.inl h))).trans (k2.mono (fun _ h => Or.inl h)) (fun _ _ h => h)).trans (k3.mono (fun _ h => Or.inr (Or.inr h))) (fun _ _ h => h)).trans (k4.mono (fun _ h => Or.inl h)) (fun _ _ h => h)
  refine ⟨⟨b4, ?_, ?_, f0.kp kk (fun i hi g hg e => ?_), slkb, swkb, fun q hq e => ?_, fun q hq => ⟨(sqlt q hq).2.1, fun e => ?_, fun e => ?_⟩⟩, kk, fun q hq => ?_⟩
  · rw [range_add]
    exact owns_kp k4 (owns_kp k3 (owns_kp k2 o1 (fun q hq e => slkb (e ▸ hq))) (fun q hq e => slsw q hq e)) (fun q hq e => slkb (e ▸ hq))
  · have e : (List.range (n + 1)).map (fun i => tx (addC n C l i)) = (List.range n).map (fun i => tx (C i)) ++ [tx l] := by
      rw [← range_add]
      refine List.map_congr_left fun i _ => ?_
      simp only [addC]
      split <;> rfl
    rw [e]
    exact owns_kp k4 o3 (fun q hq e => swkb (e ▸ hq))
  · have := sqlt g ⟨i, hi, hg⟩
    rcases e with e | e | e
    · exact this.2.1 e
    · exact this.2.2.1 e
    · exact this.2.2.2 e
  · rcases l3 q e with h1 | h1
    · exact slsw q hq h1
    · have := sl2 q hq; omega
  · rcases l1 q e with h1 | h1
    · exact (sqlt q hq).2.2.1 h1
    · have := (sqlt q hq).1; omega
  · rcases l3 q e with h1 | h1
    · exact (sqlt q hq).2.2.2 h1
    · have := (sqlt q hq).1; omega
  · rcases hq with rfl | hq | hq | hq
    · exact Or.inl (Or.inl rfl)
    · exact (l1 q hq).elim (fun h => Or.inl (Or.inr (Or.inl h))) (fun h => Or.inr (Or.inr h))
    · exact (l3 q hq).elim (fun h => Or.inl (Or.inr (Or.inr (Or.inl h)))) (fun h => Or.inr (Or.inr (by omega)))
    · exact (sq q hq).elim (fun h => Or.inl (Or.inr (Or.inr (Or.inr h)))) (fun h => Or.inr (Or.inl h))
theorem ow_form0 {w : World} {v : Value} {L : List UInt8} (h : Ow w v L) : ∃ p n c, v = .slice p n c := by
  obtain ⟨p, c, h⟩ := (ow_ls h).form
  exact ⟨p, _, c, h⟩
theorem frozen_of_block {w w' : World} {b o : Nat} (h : w'.heap[b]? = w.heap[b]?) : w'.frozen? ⟨b, o, none⟩ = w.frozen? ⟨b, o, none⟩ := by simp [World.frozen?, h]
set_option maxHeartbeats 2000000 in
set_option maxRecDepth 100000 in
theorem keep_any {kb n : Nat} {sl sw b : Value} {V : Nat → Value} {C : Nat → List UInt8} {l : List UInt8} (w : World) (hK : Bok w kb sl sw n V C) (hb : Ow w b l) (hbn : ∀ q, b.ownBlock = some q → ¬ KS kb sl sw n V q) (hn : (n + 1) * 24 ≤ 140737488355328) :
    Calls Try.prog 47 #[.pointer (some ⟨kb, 0, none⟩), b] w fun r w' => ∃ sl' sw', r = .returned (.tuple #[]) ∧ Bok w' kb sl' sw' (n + 1) (addV n V b) (addC n C l) ∧ Kp (fun q => q = kb ∨ sl.ownBlock = some q ∨ sw.ownBlock = some q) w w' ∧ ∀ q, KS kb sl' sw' (n + 1) (addV n V b) q → KS kb sl sw n V q ∨ b.ownBlock = some q ∨ w.heap.size ≤ q := by
  have hmx : Try.prog.follows .mixedOrders = true := by kernel_rfl
  obtain ⟨iT, hiT, hT0, hT1, hT2⟩ := info_parts infoL
  obtain ⟨iS, hiS, hS0, hS1, hS2⟩ := info_parts infoS
  obtain ⟨pb, nb, cb, rfl⟩ := ow_form0 hb
  have k0 := hK.c0
  have kl := hK.lt
  have HK := hid hK
  have HB := hid hb
  have HBN := hid hbn
  clear hK hb hbn
  go_enter Try.func47, Try.ntmps47
  go_wp2_with (at_builtin; refine wpList_append_lies _ rfl _ _ 53 rfl 0 22 iT (.slice none 0 0) 1 24 Try.underlying53 hiT hT0 hT1 hT2 rfl (by decide) sl n _ rfl (World.ownsRow.alloc HK.out.rl _) ⟨w.heap.size, 0, none⟩ 1 1 [.slice pb nb cb] rfl rfl (World.news_of_block (heap_new' _ _)) (fun u hu => by simp at hu; subst hu; rfl) (by decide) (by unfold maxLen; omega) hn (Nat.zero_le _) _ rfl ?_)
  intro g1 c1 W1 ho1 hg1 hl1 _
  have K1 : Hid (Kp (fun q => sl.ownBlock = some q) w W1) := (Kp.of_below ((Gr.refl w).alloc _).below).trans (Kp.grownBy (S := fun q => sl.ownBlock = some q) hg1 (fun _ h => h)) (fun _ _ h => h)
  have O1 := hid ho1
  have L1 : Hid (∀ q, (Value.slice (some ⟨g1, 0, none⟩) (n + 1) c1).ownBlock = some q → sl.ownBlock = some q ∨ w.heap.size ≤ q) := fun q hq => by
    have : q = g1 := by simpa [Value.ownBlock] using hq.symm
    rw [this]
    exact hl1.imp id (fun e => by rw [e]; simp)
  have BL1 : Hid (W1.heap[kb]? = some (.cells #[sl, sw] 56 (0, 0))) := (K1.out.block kb HK.out.lt HK.out.n1).trans HK.out.blk
  obtain ⟨d0, f0, kl1⟩ : W1.cell? ⟨kb, 0, none⟩ = some sl ∧ W1.frozen? ⟨kb, 0, none⟩ = false ∧ kb < W1.heap.size := ⟨by simp [World.cell?, BL1.out], by simp [World.frozen?, BL1.out], (Array.getElem?_eq_some_iff.1 BL1.out).1⟩
  obtain ⟨b2, k2⟩ := (bk_set BL1.out).1 (.slice (some ⟨g1, 0, none⟩) (n + 1) c1)
  have B2 := hid b2
  have K2 := hid k2
  clear ho1 hg1 hl1 b2 k2 k0 kl hT0 hT1 hT2 hiT
  go_upto_region 1 with fail
  generalize W1.setCell ⟨kb, 0, none⟩ (.slice (some ⟨g1, 0, none⟩) (n + 1) c1) = W2 at B2 K2 ⊢
  clear d0 f0 kl1
  obtain ⟨e1, f1, kl2⟩ : W2.cell? ⟨kb, 1, none⟩ = some sw ∧ W2.frozen? ⟨kb, 1, none⟩ = false ∧ kb < W2.heap.size := ⟨by simp [World.cell?, B2.out], by simp [World.frozen?, B2.out], (Array.getElem?_eq_some_iff.1 B2.out).1⟩
  have KK : Hid (Kp (fun q => q = kb ∨ sl.ownBlock = some q) w W2) := (K1.out.mono (fun _ h => Or.inr h)).trans (K2.out.mono (fun _ h => Or.inl h)) (fun _ _ h => h)
  have LB : Hid (Ls EB W2 (.slice pb nb cb) l) := KK.out.ls (ow_ls HB.out) (fun q hq e => HBN.out q hq (by
    rcases e with e | e
    · exact Or.inl e
    · exact Or.inr (Or.inl e)))
  have ht0 := to_text (LB.out.below (Gr.refl W2).drew.below)
  have hne1 : some kb ≠ sw.ownBlock := fun e => HK.out.n2 e.symm
  have hnm : W2.ownsRow 0 9 1 sw n ((List.range n).map (fun i => tx (C i))) := owns_kp KK.out HK.out.rw (fun q hq e => by
    rcases e with e | e
    · exact HK.out.n2 (e ▸ hq)
    · exact HK.out.n3 q e hq)
  go_region_law (refine step_append_lies _ rfl _ _ 54 rfl 0 9 iS (.string ByteArray.empty) 1 16 Try.underlying54 hiS hS0 hS1 hS2 rfl (by decide) sw n _ rfl (World.ownsRow.alloc (w := W2.drew) hnm _) ⟨W2.heap.size, 0, none⟩ 1 1 [tx l] rfl rfl (World.news_of_block (heap_new' _ _)) (by simp [Value.oneCell']) (by decide) (by unfold maxLen; omega) (by omega) (Nat.zero_le _) _ rfl ?_
                 intro g cap w10 hown10 hgrow hat10 hlt10
                 have HB10 := hgrow.block kb (by simp; omega) hne1
                 have k10 : w10.cell? ⟨kb, 1, none⟩ = some sw := (World.cell?_of_block (a := ⟨kb, 1, none⟩) HB10).trans ((((Gr.refl W2).drew.alloc _).cell kl2).trans e1)
                 have k10f : w10.frozen? ⟨kb, 1, none⟩ = false := (frozen_of_block HB10).trans ((((Gr.refl W2).drew.alloc _).frozen kl2).trans f1))
  all_goals (
    go_end0
    have BL10 : w10.heap[kb]? = some (.cells #[.slice (some ⟨g1, 0, none⟩) (n + 1) c1, sw] 56 (0, 0)) := HB10.trans ((((Gr.refl W2).drew.alloc _).below.block kb kl2).trans B2.out)
    obtain ⟨b4, k4⟩ := (bk_set BL10).2 (.slice (some ⟨g, 0, none⟩) (n + 1) cap)
    have k3 : Kp (fun q => sw.ownBlock = some q) W2 w10 := (Kp.of_gr ((Gr.refl W2).drew.alloc _)).trans (Kp.grownBy (S := fun q => sw.ownBlock = some q) hgrow (fun _ h => h)) (fun _ _ h => h)
    obtain ⟨r1, r2, r3⟩ := HK.out.add HB.out HBN.out O1.out K1.out L1.out K2.out B2.out hown10 k3 (fun q hq => by
      have : q = g := by simpa [Value.ownBlock] using hq.symm
      rw [this]
      exact hat10.imp id (fun e => by rw [e]; simp)) k4 b4
    exact ⟨_, _, rfl, r1, r2, r3⟩)
set_option maxHeartbeats 2000000 in
set_option maxRecDepth 100000 in
theorem whole_any {kb n : Nat} {sl sw : Value} {V : Nat → Value} {C : Nat → List UInt8} (w : World) (hK : Bok w kb sl sw n V C) (hn : n * 24 ≤ 140737488355328) (hsm : ∀ i, i < n → (C i).length + 70 ≤ 140737488355328) :
    Calls Try.prog 24 #[.pointer (some ⟨kb, 0, none⟩)] w fun r w' => r = .returned (.bool true) ∧ Kp (SqF n V) w w' := by
  have hmx : Try.prog.follows .mixedOrders = true := by kernel_rfl
  obtain ⟨pT, gT, cT, rfl, fT⟩ := row_form hK.rl
  obtain ⟨pS, gS, cS, rfl, fS⟩ := row_form hK.rw
  have FT := hid fT
  have FS := hid fS
  have HK := hid hK
  have HSM := hid hsm
  have k0 := hK.c0
  have k1 := hK.c1
  have kl := hK.lt
  clear fT fS hK hsm
  go_enter Try.func24, Try.ntmps24
  go_wp2_with fail
  go_loopw [3] (fun s3 wr => ∃ i : Nat, i ≤ n ∧ s3 = .int .i64 i ∧ Gr w wr) (fun s3 _ => n - (RowKit.intOf s3).toNat)
  case atStart => exact ⟨0, Nat.zero_le _, rfl, Gr.refl _⟩
  case round =>
    obtain ⟨i, hi, rfl, hgr⟩ := hrel
    have d0 := (hgr.cell (o := 0) kl).trans k0
    have d1 := (hgr.cell (o := 1) kl).trans k1
    have dl := Nat.lt_of_lt_of_le kl hgr.size
    by_cases hlt : i < n
    · have hltz : (i : Int) < (n : Int) := by omega
      obtain ⟨e1, g1, c1, -⟩ := FT.out i hlt
      obtain ⟨e2, g2, c2, -⟩ := FS.out i hlt
      subst e1 e2
      obtain ⟨pv, nv, cv, ev⟩ := ow_form0 (HK.out.fam.own i hlt)
      have HL : Hid (Ls EB wr (V i) (C i)) := (ow_ls (HK.out.fam.own i hlt)).below hgr.below
      have hl2 := HL.out
      rw [ev] at c1 hl2
      have x1 := (hgr.cell (o := i) g1).trans c1
      have x2 := (hgr.cell (o := i) g2).trans c2
      have z1 := Nat.lt_of_lt_of_le g1 hgr.size
      have z2 := Nat.lt_of_lt_of_le g2 hgr.size
      have ht : ∀ m, (convert 22 9 (.slice pv nv cv)).run Try.prog (wr.drewN m) = .ok (tx (C i)) (wr.drewN m) := fun m => to_text (hl2.below ((Gr.refl wr).drewN m).below)
      have ht0 := ht 0
      have ht1 := ht 1
      clear hl2 HL ev c1 c2 g1 g2
      go_wp2_with fail
      go_quiet (fail)
      go_wp2_with fail
      go_roundw
      case rel => exact ⟨i + 1, by omega, by go_num, hgr.drewN _⟩
      case measure => simp [RowKit.intOf]; omega
    · have hltz : ¬ (i : Int) < (n : Int) := by omega
      have hap := apart_any n _ V C wr (owns_below HK.out.rl hgr.below) (HK.out.fam.below hgr.below) (fun q hq => (HK.out.n4 q hq).2.1) hn HSM.out
      go_wp2_with fail
      refine hap.mono ?_
      rintro r w5 ⟨rfl, hb5⟩
      go_wp2_with fail
      go_ret
      exact ⟨rfl, (Kp.of_gr hgr).trans hb5 (fun _ _ h => h)⟩
end Go.Proofs.Ytgojhhdjpkilmaa.Wi
