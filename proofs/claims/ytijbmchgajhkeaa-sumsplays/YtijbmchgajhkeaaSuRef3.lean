import Derived.Test.YtijbmchgajhkeaaSuLz
import Derived.Test.YtijbmchgajhkeaaSuLk0
namespace Go.Proofs.Ytijbmchgajhkeaa
open Go.RowKit Go.Sort Go.Maps Go.Shelf
attribute [local go_sem ↓] Go.wp_at_zero Go.wp_at_succ

/-- What Ready has of a list. -/
def flt (F : List Tm) (l : List Tm) : List Tm := l.filter fun t => !ccov bel F t
theorem flt_snoc (F l : List Tm) (t : Tm) : flt F (l ++ [t]) = if ccov bel F t = true then flt F l else flt F l ++ [t] := by
  unfold flt
  rw [List.filter_append]
  cases h : ccov bel F t <;> simp [h]
theorem flt_len (F l : List Tm) : (flt F l).length ≤ l.length := List.length_filter_le _ _
set_option maxHeartbeats 4000000 in
set_option maxRecDepth 100000 in
theorem rready_any {S : Nat → Prop} {rb : Nat} {A : List Ct} {v : Value} {F : List Tm} (w : World) (h : Rs w S rb A) (hl : A.length ≤ 1000) (hv : Lw ET w v F) (hF : F.length ≤ 5864062014806) :
    Calls Try.prog 36 #[.pointer (some ⟨rb, 0, none⟩), v] w fun e w' => ∃ v', e = .returned v' ∧ w'.ownsRow w.heap.size 32 3 v' (rdy A F).length (fl ET (rdy A F)) ∧ Below w.heap.size w w' := by
  obtain ⟨pf, cf, rfl⟩ := hv.form
  obtain ⟨m, hm⟩ : ∃ m, m = F.length := ⟨_, rfl⟩
  rw [← hm] at hv hF
  rw [← hm]
  have HMF := hid hm
  have HVF := hid hv
  have hti := rtimes_any w h hl
  have hnk9 : (tms A).length ≤ 1000 := Nat.le_trans (tms_len A) hl
  have hah := fun (a b : Tm) W => rahead_any a b W
  obtain ⟨nk, hnk⟩ : ∃ nk, nk = (tms A).length := ⟨_, rfl⟩
  rw [← hnk] at hti hnk9
  have HNK := hid hnk
  clear h hm hv hl hnk
  go_enter Try.func36, Try.ntmps36
  go_wp2_with fail
  refine hti.mono ?_
  rintro e w1 ⟨v1, rfl, hr1, hb1⟩
  obtain ⟨p1, c1, hv1⟩ := owns_form hr1
  subst hv1
  have HL1 : Hid (Ls ET w1 (.slice p1 nk c1) (tms A)) := owns_lst (owns_re hr1 HNK.out rfl)
  have HF1 := hid (HVF.out.below hb1)
  have HB1 := hid hb1
  clear hti hr1 hb1 HVF
  go_wp2_with fail
  go_loopw [5, 14] (fun s5 s14 wr => ∃ (i : Nat) (po : Option Addr) (co : Nat), i ≤ nk ∧ s14 = .int .i64 (i : Nat) ∧ s5 = .slice po (flt F ((tms A).take i)).length co ∧ Hid (wr.ownsRow w1.heap.size 32 3 (.slice po (flt F ((tms A).take i)).length co) (flt F ((tms A).take i)).length (fl ET (flt F ((tms A).take i))) ∧ Below w1.heap.size w1 wr)) (fun _ s14 _ => nk - (RowKit.intOf s14).toNat)
  case atStart => exact ⟨0, none, 0, Nat.zero_le _, rfl, rfl, World.ownsRow_nil _ _ _ _, Below.refl _ _⟩
  case round =>
    obtain ⟨i, po, co, hi, rfl, rfl, HI⟩ := hrel
    by_cases hlt : i < nk
    · have hz : (i : Int) < (nk : Int) := by omega
      have hi0 : (0 : Int) ≤ (i : Int) := by omega
      obtain ⟨t, ht⟩ : ∃ t, (tms A)[i]? = some t := ⟨(tms A)[i]'(by have := HNK.out; omega), by simp⟩
      obtain ⟨b1, o1, q1, e1, l1, x0, x1, x2⟩ := (HL1.out.below HI.out.2).at3 ht
      simp only [Value.slice.injEq] at e1
      obtain ⟨rfl, -, rfl⟩ := e1
      have NX : Hid (flt F ((tms A).take (i + 1)) = if ccov bel F t = true then flt F ((tms A).take i) else flt F ((tms A).take i) ++ [t]) := by
        show _ = _
        rw [← take_snoc ht, flt_snoc]
      have hol : (flt F ((tms A).take i)).length ≤ 1000 := Nat.le_trans (flt_len _ _) (by rw [List.length_take]; omega)
      obtain ⟨W5, hW5⟩ : ∃ W, W = wr.alloc (.cells #[.int .u64 t.1.1, .int .u64 t.1.2.1, .int .u64 t.1.2.2] 32) := ⟨_, rfl⟩
      obtain ⟨B5, hB5⟩ : ∃ B, B = wr.heap.size := ⟨_, rfl⟩
      have G5 : Gr wr W5 := by rw [hW5]; exact (Gr.refl _).alloc _
      have HX5 : Hid (W5.heap[B5]? = some (.cells #[.int .u64 t.1.1, .int .u64 t.1.2.1, .int .u64 t.1.2.2] 32 (0, 0))) := by rw [hW5, hB5]; exact heap_new' _ _
      have HI5 : Hid (W5.ownsRow w1.heap.size 32 3 (.slice po (flt F ((tms A).take i)).length co) (flt F ((tms A).take i)).length (fl ET (flt F ((tms A).take i))) ∧ Below w1.heap.size w1 W5) := ⟨owns_below HI.out.1 G5.below, HI.out.2.trans (G5.below.mono HI.out.2.size)⟩
      have HF5 := hid (HF1.out.below HI5.out.2)
      clear ht HI G5
      go_upto_region 5 with fail
      rw [← hW5, ← hB5]
      clear hW5 hB5 x0 x1 x2 l1
      go_wp2_with fail
      go_loopw [8, 20] (fun s8 s20 wr => ∃ k : Nat, k ≤ m ∧ s20 = .int .i64 (k : Nat) ∧ s8 = .bool (!ccov bel (F.take k) t) ∧ Hid (Gr W5 wr)) (fun _ s20 _ => m - (RowKit.intOf s20).toNat)
      case atStart => exact ⟨0, Nat.zero_le _, rfl, by rw [List.take_zero, ccov_nil]; rfl, Gr.refl _⟩
      case round =>
        obtain ⟨k, hk, rfl, rfl, HG⟩ := hrel
        obtain ⟨d0, d1, d2, z6⟩ := bx_cell ((HG.out.below.block B5 (Array.getElem?_eq_some_iff.1 HX5.out).1).trans HX5.out)
        by_cases hltk : k < m
        · have hltz : (k : Int) < (m : Int) := by omega
          have hk0 : (0 : Int) ≤ (k : Int) := by omega
          obtain ⟨u, hu⟩ : ∃ u, F[k]? = some u := ⟨F[k]'(by have := HMF.out; omega), by simp⟩
          obtain ⟨b2, o2, q2, e2, l2, y0, y1, y2⟩ := ((HF5.out.below HG.out.below).ls hu).at3 hu
          simp only [Value.slice.injEq] at e2
          obtain ⟨rfl, -, rfl⟩ := e2
          have HCC : Hid (ccov bel (F.take (k + 1)) t = (ccov bel (F.take k) t || bel u t)) := by
            show _ = _
            rw [← take_snoc hu, ccov_snoc]
          obtain ⟨W6, hW6⟩ : ∃ W, W = wr.alloc (.cells #[.int .u64 u.1.1, .int .u64 u.1.2.1, .int .u64 u.1.2.2] 32) := ⟨_, rfl⟩
          obtain ⟨B6, hB6⟩ : ∃ B, B = wr.heap.size := ⟨_, rfl⟩
          have G6 : Gr wr W6 := by rw [hW6]; exact (Gr.refl _).alloc _
          have hx6 : W6.heap[B6]? = some (.cells #[.int .u64 u.1.1, .int .u64 u.1.2.1, .int .u64 u.1.2.2] 32 (0, 0)) := by rw [hW6, hB6]; exact heap_new' _ _
          obtain ⟨f0, f1, f2, z7⟩ := bx_cell hx6
          have g0 := (G6.cell z6).trans d0
          have g1 := (G6.cell z6).trans d1
          have g2 := (G6.cell z6).trans d2
          have z8 := Nat.lt_of_lt_of_le z6 G6.size
          have HG6 := hid (HG.out.trans G6)
          have hau := hah u t W6
          clear hu G6 hx6 HG d0 d1 d2 z6
          go_upto_region 9 with fail
          rw [← hW6, ← hB6]
          clear hW6 hB6 y0 y1 y2 l2
          cases hq : ccov bel (F.take k) t with
          | true =>
            have HN' : Hid ((!ccov bel (F.take (k + 1)) t) = false) := by show _ = _; rw [HCC.out, hq]; rfl
            clear hau HCC hq
            go_wp2_with fail
            go_roundw
            case rel => exact ⟨k + 1, by omega, by go_num, by rw [HN'.out], HG6.out⟩
            case measure => simp [RowKit.intOf]; omega
          | false =>
            have HN' : Hid ((!ccov bel (F.take (k + 1)) t) = !bel u t) := by show _ = _; rw [HCC.out, hq]; rfl
            clear HCC hq
            go_wp2_with fail
            refine hau.mono ?_
            rintro e w7 ⟨rfl, g7⟩
            have HG7 := hid (HG6.out.trans g7)
            clear hau g7
            go_wp2_with fail
            go_roundw
            case rel => exact ⟨k + 1, by omega, by go_num, by rw [HN'.out], HG7.out⟩
            case measure => simp [RowKit.intOf]; omega
        · have hltz : ¬ (k : Int) < (m : Int) := by omega
          have HE : Hid (F.take k = F) := by show _ = _; exact List.take_of_length_le (by have := HMF.out; omega)
          rw [HE.out]
          obtain ⟨w7, hw7⟩ : ∃ w7, w7 = wr := ⟨_, rfl⟩
          rw [← hw7] at HG d0 d1 d2 z6 ⊢
          have HI7 : Hid (w7.ownsRow w1.heap.size 32 3 (.slice po (flt F ((tms A).take i)).length co) (flt F ((tms A).take i)).length (fl ET (flt F ((tms A).take i))) ∧ Below w1.heap.size w1 w7) := ⟨owns_below HI5.out.1 HG.out.below, HI5.out.2.trans (HG.out.below.mono HI5.out.2.size)⟩
          have HIL := hid (show i + 1 ≤ nk by omega)
          clear HI5 HF5 HX5 HG hw7
          cases hq : ccov bel F t with
          | true =>
            have NX' : Hid (flt F ((tms A).take (i + 1)) = flt F ((tms A).take i)) := by have h := NX.out; rw [if_pos hq] at h; exact h
            clear hq NX
            go_wp2_with fail
            go_roundw
            case rel => exact ⟨i + 1, po, co, HIL.out, by go_num, by rw [NX'.out], by rw [NX'.out]; exact HI7.out⟩
            case measure => simp [RowKit.intOf]; omega
          | false =>
            have NX' : Hid (flt F ((tms A).take (i + 1)) = flt F ((tms A).take i) ++ [t]) := by have h := NX.out; rw [if_neg (by rw [hq]; simp)] at h; exact h
            clear hq NX
            generalize flt F ((tms A).take i) = out at *
            obtain ⟨n1, hn1⟩ : ∃ n1, n1 = out.length := ⟨_, rfl⟩
            rw [← hn1] at HI7 hol ⊢
            have HN1 := hid hn1
            clear hn1
            have hbd : (n1 + 1) * 24 ≤ 140737488355328 ∧ n1 + 1 ≤ maxLen := by unfold maxLen; omega
            go_wp2_with (at_builtin; refine wpApp1 ET Try.underlying23 infoTm rfl (by decide) rfl _ _ rfl w1.heap.size (.slice po n1 co) n1 _ rfl HI7.out.1 t rfl hbd.1 hbd.2 HI7.out.2.size _ rfl _ ?_)
            intro g8 c8 w8 ho8 hg8 hl8
            have HI8 : Hid (w8.ownsRow w1.heap.size 32 3 (.slice (some ⟨g8, 0, none⟩) (flt F ((tms A).take (i + 1))).length c8) (flt F ((tms A).take (i + 1))).length (fl ET (flt F ((tms A).take (i + 1)))) ∧ Below w1.heap.size w1 w8) := by
              refine ⟨?_, HI7.out.2.trans ((Kp.grownBy (S := fun k => (Value.slice po n1 co).ownBlock = some k) hg8 (fun _ h => h)).below HI7.out.2.size (fun k hk => (HI7.out.1.lt k hk).1))⟩
              rw [NX'.out, List.length_append, ← HN1.out, fl_append, fl_one]
              exact ho8
            have HLN : Hid (n1 + 1 = (flt F ((tms A).take (i + 1))).length) := by show _ = _; rw [NX'.out, List.length_append, ← HN1.out]; rfl
            clear ho8 hg8 hl8 HI7 hbd
            go_wp2_with fail
            go_roundw
            case rel => exact ⟨i + 1, some ⟨g8, 0, none⟩, c8, HIL.out, by go_num, by rw [← HLN.out], HI8.out⟩
            case measure => simp [RowKit.intOf]; omega
    · have hz : ¬ (i : Int) < (nk : Int) := by omega
      have HE : Hid ((tms A).take i = tms A) := by show _ = _; exact List.take_of_length_le (by have := HNK.out; omega)
      rw [HE.out] at HI
      rw [HE.out]
      go_wp2
      go_ret
      exact ⟨_, rfl, owns_base HI.out.1 HB1.out.size, HB1.out.trans (HI.out.2.mono HB1.out.size)⟩
end Go.Proofs.Ytijbmchgajhkeaa
