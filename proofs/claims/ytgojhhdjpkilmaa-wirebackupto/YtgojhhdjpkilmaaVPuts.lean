import Derived.Test.YtgojhhdjpkilmaaVOp
namespace Go.Proofs.Ytgojhhdjpkilmaa.Wi
open Go.RowKit Go.Sort
attribute [local go_sem ↓] Go.wp_at_zero Go.wp_at_succ

/-- Numbers. -/
def EN : El Nat where
  k := 1
  enc x := [.int .i64 (x : Nat)]
  len _ := rfl
  one x u hu := by
    simp at hu
    subst hu
    rfl
theorem infoN : (Try.prog.info? 3).map (fun i => (i.zero, i.size, i.bytes)) = some (some (.int .i64 0), 1, 8) := by kernel_rfl
/-- Where each call's bytes end. -/
def endl (os : List Opw) (i : Nat) : List Nat := (List.range i).map (fun j => (pre os (j + 1)).length)
theorem endl_len (os : List Opw) (i : Nat) : (endl os i).length = i := by simp [endl]
theorem endl_succ (os : List Opw) (i : Nat) : endl os (i + 1) = endl os i ++ [(pre os (i + 1)).length] := by simp [endl, List.range_succ]
/-- What is known as things are put. -/
structure PutI (w wr : World) (wb : Nat) (vw ve : Value) (os : List Opw) (i : Nat) : Prop where
  wt : Wr wr wb vw (pre os i) 0
  ends : wr.ownsRow 0 3 1 ve i (fl EN (endl os i))
  ne : ve.ownBlock ≠ some wb
  ap : ∀ k, vw.ownBlock = some k → ve.ownBlock ≠ some k
  gw : w.heap.size ≤ wb
  gv : ∀ k, vw.ownBlock = some k → w.heap.size ≤ k
  gn : ∀ k, ve.ownBlock = some k → w.heap.size ≤ k
  bl : Below w.heap.size w wr
/-- One call more. -/
theorem PutI.step {w wr W1 w5 w6 w7 : World} {wb : Nat} {vw ve v5 v7 : Value} {os : List Opw} {i : Nat} {o : Opw} (h : PutI w wr wb vw ve os i) (ho : os[i]? = some o) (hg : Gr wr W1)
    (h5 : Wr w5 wb v5 (pre os i ++ piece o) 0) (t5 : Turn wb vw v5 W1 w5) (b6 : Below w5.heap.size w5 w6) :
    Wr w6 wb v5 (pre os (i + 1)) 0 ∧ w6.ownsRow 0 3 1 ve i (fl EN (endl os i)) ∧ (∀ g cap, w7.ownsRow 0 3 1 v7 (i + 1) (fl EN (endl os i) ++ EN.enc (pre os (i + 1)).length) → w6.grownBy w7 ve.ownBlock → v7 = .slice (some ⟨g, 0, none⟩) (i + 1) cap → (ve.ownBlock = some g ∨ w6.heap.size ≤ g) → PutI w w7 wb v5 v7 os (i + 1)) := by
  have hlt : ∀ k, ve.ownBlock = some k → k < wr.heap.size := fun k hk => (h.ends.lt k hk).2
  have hb1 : Below w.heap.size w W1 := h.bl.trans (hg.below.mono h.bl.size)
  have hb5 : Below w.heap.size w w5 := hb1.trans (t5.1.below hb1.size (fun k hk => by
    rcases hk with rfl | hk
    · exact h.gw
    · exact h.gv k hk))
  have hb6 : Below w.heap.size w w6 := hb5.trans (b6.mono hb5.size)
  have hz := hg.size
  have hz5 := t5.1.size
  have hz6 := b6.size
  have w6 : Wr w6 wb v5 (pre os (i + 1)) 0 := by
    rw [pre_succ ho]
    exact h5.below b6
  have hav : ∀ k, v5.ownBlock = some k → ve.ownBlock ≠ some k := fun k hk e => by
    rcases t5.2 k hk with h1 | h1
    · exact h.ap k h1 e
    · have := hlt k e; omega
  refine ⟨w6, owns_below (owns_kp t5.1 (owns_below h.ends hg.below) (fun k hk e => ?_)) b6, fun g cap ho7 hg7 hv7 hat => ?_⟩
  · rcases e with e | e
    · exact h.ne (e ▸ hk)
    · exact h.ap k e hk
  · have hk7 := Kp.grownBy (S := fun k => ve.ownBlock = some k) hg7 (fun _ h => h)
    have hnew : ∀ k, v7.ownBlock = some k → ve.ownBlock = some k ∨ wr.heap.size ≤ k := fun k hk => by
      rw [hv7] at hk
      have : k = g := by simpa [Value.ownBlock] using hk.symm
      subst this
      exact hat.imp id (fun h => by omega)
    have h5row : ∀ k, v5.ownBlock = some k → k < w5.heap.size := h5.row
    have hgv5 : ∀ k, v5.ownBlock = some k → w.heap.size ≤ k := fun k hk => by
      rcases t5.2 k hk with h1 | h1
      · exact h.gv k h1
      · have := hb1.size; omega
    refine ⟨w6.kp hk7 h.ne hav, ?_, fun e => ?_, fun k hk e => ?_, h.gw, hgv5, fun k hk => ?_, hb6.trans (hk7.below hb6.size h.gn)⟩
    · rw [endl_succ, fl_append, fl_one]
      exact ho7
    · rcases hat with h1 | h1
      · rw [hv7] at e
        have : g = wb := by simpa [Value.ownBlock] using e
        exact h.ne (this ▸ h1)
      · rw [hv7] at e
        have : g = wb := by simpa [Value.ownBlock] using e
        have := h5.lt
        omega
    · rw [hv7] at e
      have : g = k := by simpa [Value.ownBlock] using e
      subst this
      rcases hat with h1 | h1
      · exact hav g hk h1
      · have := h5row g hk; omega
    · rcases hnew k hk with h1 | h1
      · exact h.gn k h1
      · have := h.bl.size; omega
set_option maxHeartbeats 2000000 in
theorem puts_any {v : Value} {os : List Opw} (w : World) (hS : ScrAt w v os) (hbig : (os.map (fun o => 10 + o.l.length)).sum ≤ 4194304) (hlen : os.length ≤ 4194304) :
    Calls Try.prog 21 #[v] w fun r w' => ∃ d ve, r = .returned (.tuple #[d, ve]) ∧ Ow w' d (pre os os.length) ∧ Ls EN w' ve (endl os os.length) ∧ Below w.heap.size w w' := by
  have HS := hid hS
  obtain ⟨p, c, rfl, hcell⟩ := hS
  have HC := hid hcell
  clear hcell
  go_enter Try.func21, Try.ntmps21
  go_wp2_with fail
  refine (newwriter_any _).mono ?_
  rintro r w1 ⟨wb, rfl, hge, hW, hg⟩
  have I0 : Hid (PutI w w1 wb (.slice none 0 0) (.slice none 0 0) os 0) := ⟨hW, World.ownsRow_nil _ _ _ _, by simp [Value.ownBlock], by simp [Value.ownBlock], hge, by simp [Value.ownBlock], by simp [Value.ownBlock], hg.below⟩
  clear hW hg hge
  go_wp2_with fail
  go_loopw [5, 6, 7] (fun s5 s6 _ wr => ∃ (i : Nat) (vw : Value), i ≤ os.length ∧ s6 = .int .i64 i ∧ Hid (PutI w wr wb vw s5 os i)) (fun _ s6 _ _ => os.length - (RowKit.intOf s6).toNat)
  case atStart => exact ⟨0, _, Nat.zero_le _, rfl, I0.out⟩
  case round =>
    clear I0
    obtain ⟨i, vw, hi, rfl, HI⟩ := hrel
    by_cases hlt : i < os.length
    · have hltz : (i : Int) < (os.length : Int) := by omega
      obtain ⟨o, ho⟩ : ∃ o, os[i]? = some o := ⟨os[i], by rw [List.getElem?_eq_getElem]⟩
      obtain ⟨hok, b, off, rfl, hb, c0, c1, c2, c3, c4⟩ := HC.out i o ho
      have e : ∀ j, wr.cell? ⟨b, j, none⟩ = w.cell? ⟨b, j, none⟩ := fun j => HI.out.bl.cell (p := ⟨b, j, none⟩) hb
      rw [← e] at c0 c1 c2 c3 c4
      have hb' : b < wr.heap.size := Nat.lt_of_lt_of_le hb HI.out.bl.size
      clear HS
      obtain ⟨kind, two, v, n, u, l⟩ := o
      obtain ⟨pu, cu, hu⟩ := hok.lb.form
      simp only at hu c0 c1 c2 c3 c4
      subst hu
      have HOK := hid hok
      have HOI := hid ho
      have PL : Hid ((pre os i).length + (piece ⟨kind, two, v, n, .slice pu l.length cu, l⟩).length ≤ 4194304) := by
        have h1 := pre_len (fun i o h => (HC.out i o h).1) (i + 1)
        rw [pre_succ ho, List.length_append] at h1
        show (pre os i).length + (piece ⟨kind, two, v, n, .slice pu l.length cu, l⟩).length ≤ 4194304
        omega
      obtain ⟨W1, hW1⟩ : ∃ W1, W1 = wr.alloc (.cells #[.int .i64 kind, .bool two, .int .u64 (v : Nat), .int .i64 n, .slice pu l.length cu] 47) := ⟨_, rfl⟩
      obtain ⟨B, hB⟩ : ∃ B, B = wr.heap.size := ⟨_, rfl⟩
      have G1 : Hid (Gr wr W1) := by rw [hW1]; exact (Gr.refl _).alloc _
      have hbl : W1.heap[B]? = some (.cells #[.int .i64 kind, .bool two, .int .u64 (v : Nat), .int .i64 n, .slice pu l.length cu] 47 (0, 0)) := by rw [hW1, hB]; exact heap_new' _ _
      have hBl : B < W1.heap.size := (Array.getElem?_eq_some_iff.1 hbl).1
      obtain ⟨d0, d2, d3, d4⟩ : W1.cell? ⟨B, 0, none⟩ = some (.int .i64 kind) ∧ W1.cell? ⟨B, 2, none⟩ = some (.int .u64 (v : Nat)) ∧ W1.cell? ⟨B, 3, none⟩ = some (.int .i64 n) ∧ W1.cell? ⟨B, 4, none⟩ = some (.slice pu l.length cu) := by simp [World.cell?, hbl]
      have WT := hid (HI.out.wt.gr G1.out)
      clear e hok ho hbl
      by_cases k1 : kind = 1
      · subst k1
        have hp : piece ⟨1, two, v, n, .slice pu l.length cu, l⟩ = form v := by unfold piece; rw [if_pos rfl]
        have hc := wnum_any v HOK.out.hv W1 WT.out (by have := PL.out; omega)
        rw [show put 0 (pre os i) (form v) = pre os i ++ piece ⟨1, two, v, n, .slice pu l.length cu, l⟩ by rw [hp]; rfl] at hc
        clear hp
        go_wp2_with fail
        rw [← hW1, ← hB]
        clear hW1 hB c0 c1 c2 c3 c4
        go_wp2_with fail
        refine hc.mono ?_
        rintro r w5 ⟨v5, rfl, h5, t5⟩
        have H5 := hid h5
        have T5 := hid t5
        clear h5 t5 hc
        go_wp2_with fail
        refine (wdata_any w5 H5.out (by rw [List.length_append]; have := PL.out; omega)).mono ?_
        rintro r w6 ⟨d6, rfl, h6, b6⟩
        obtain ⟨s1, s2, s3⟩ := HI.out.step (w7 := w6) (v7 := .slice none 0 0) HOI.out G1.out H5.out T5.out b6
        have OE := hid s2
        have ST : Hid (∀ w7 v7 g cap, w7.ownsRow 0 3 1 v7 (i + 1) (fl EN (endl os i) ++ EN.enc (pre os (i + 1)).length) → w6.grownBy w7 u5.ownBlock → v7 = .slice (some ⟨g, 0, none⟩) (i + 1) cap → (u5.ownBlock = some g ∨ w6.heap.size ≤ g) → PutI w w7 wb v5 v7 os (i + 1)) := fun w7 v7 => (HI.out.step (w7 := w7) (v7 := v7) HOI.out G1.out H5.out T5.out b6).2.2
        obtain ⟨q6, c6, rfl⟩ := (ow_ls (owns_base h6 (Nat.zero_le _))).form
        have LE := hid (congrArg List.length (pre_succ HOI.out)).symm
        rw [LE.out]
        generalize (pre os (i + 1)).length = M at ST
        clear s1 s2 s3 h6 b6 LE
        go_wp2_with (at_builtin; refine wpApp1 EN Try.underlying42 infoN rfl (by decide) rfl _ _ rfl 0 u5 i _ rfl OE.out M rfl (by omega) (by unfold maxLen; omega) (Nat.zero_le _) _ rfl _ ?_)
        intro g cap w7 h7 g7 a7
        have HN := hid (ST.out w7 _ g cap h7 g7 rfl a7)
        clear h7 g7 a7
        go_wp2_with fail
        go_roundw
        case rel => exact ⟨i + 1, v5, by omega, by go_num, HN.out⟩
        case measure => simp [RowKit.intOf]; omega
      · by_cases k2 : kind = 2
        · subst k2
          have hp : piece ⟨2, two, v, n, .slice pu l.length cu, l⟩ = form (fold n) := by unfold piece; rw [if_neg (by simp), if_pos rfl]
          have hc := wint_any n HOK.out.n0 HOK.out.n1 W1 WT.out (by have := PL.out; omega)
          rw [show put 0 (pre os i) (form (fold n)) = pre os i ++ piece ⟨2, two, v, n, .slice pu l.length cu, l⟩ by rw [hp]; rfl] at hc
          clear hp
          go_wp2_with fail
          rw [← hW1, ← hB]
          clear hW1 hB c0 c1 c2 c3 c4
          go_wp2_with fail
          refine hc.mono ?_
          rintro r w5 ⟨v5, rfl, h5, t5⟩
          have H5 := hid h5
          have T5 := hid t5
          clear h5 t5 hc
          go_wp2_with fail
          refine (wdata_any w5 H5.out (by rw [List.length_append]; have := PL.out; omega)).mono ?_
          rintro r w6 ⟨d6, rfl, h6, b6⟩
          obtain ⟨s1, s2, s3⟩ := HI.out.step (w7 := w6) (v7 := .slice none 0 0) HOI.out G1.out H5.out T5.out b6
          have OE := hid s2
          have ST : Hid (∀ w7 v7 g cap, w7.ownsRow 0 3 1 v7 (i + 1) (fl EN (endl os i) ++ EN.enc (pre os (i + 1)).length) → w6.grownBy w7 u5.ownBlock → v7 = .slice (some ⟨g, 0, none⟩) (i + 1) cap → (u5.ownBlock = some g ∨ w6.heap.size ≤ g) → PutI w w7 wb v5 v7 os (i + 1)) := fun w7 v7 => (HI.out.step (w7 := w7) (v7 := v7) HOI.out G1.out H5.out T5.out b6).2.2
          obtain ⟨q6, c6, rfl⟩ := (ow_ls (owns_base h6 (Nat.zero_le _))).form
          have LE := hid (congrArg List.length (pre_succ HOI.out)).symm
          rw [LE.out]
          generalize (pre os (i + 1)).length = M at ST
          clear s1 s2 s3 h6 b6 LE
          go_wp2_with (at_builtin; refine wpApp1 EN Try.underlying42 infoN rfl (by decide) rfl _ _ rfl 0 u5 i _ rfl OE.out M rfl (by omega) (by unfold maxLen; omega) (Nat.zero_le _) _ rfl _ ?_)
          intro g cap w7 h7 g7 a7
          have HN := hid (ST.out w7 _ g cap h7 g7 rfl a7)
          clear h7 g7 a7
          go_wp2_with fail
          go_roundw
          case rel => exact ⟨i + 1, v5, by omega, by go_num, HN.out⟩
          case measure => simp [RowKit.intOf]; omega
        · by_cases k3 : kind = 3
          · subst k3
            have hp : piece ⟨3, two, v, n, .slice pu l.length cu, l⟩ = [byt n] := by unfold piece; rw [if_neg (by simp), if_neg (by simp), if_pos rfl]
            have hc := wbyte_any (byt n) W1 WT.out (by have := PL.out; omega)
            rw [show put 0 (pre os i) [byt n] = pre os i ++ piece ⟨3, two, v, n, .slice pu l.length cu, l⟩ by rw [hp]; rfl, show bv (byt n) = .int .u8 (IntKind.u8.wrap n) by rw [IntKind.wrap_u8, ← byt_nat]] at hc
            clear hp
            go_wp2_with fail
            rw [← hW1, ← hB]
            clear hW1 hB c0 c1 c2 c3 c4
            go_wp2_with fail
            refine hc.mono ?_
            rintro r w5 ⟨v5, rfl, h5, t5⟩
            have H5 := hid h5
            have T5 := hid t5
            clear h5 t5 hc
            go_wp2_with fail
            refine (wdata_any w5 H5.out (by rw [List.length_append]; have := PL.out; omega)).mono ?_
            rintro r w6 ⟨d6, rfl, h6, b6⟩
            obtain ⟨s1, s2, s3⟩ := HI.out.step (w7 := w6) (v7 := .slice none 0 0) HOI.out G1.out H5.out T5.out b6
            have OE := hid s2
            have ST : Hid (∀ w7 v7 g cap, w7.ownsRow 0 3 1 v7 (i + 1) (fl EN (endl os i) ++ EN.enc (pre os (i + 1)).length) → w6.grownBy w7 u5.ownBlock → v7 = .slice (some ⟨g, 0, none⟩) (i + 1) cap → (u5.ownBlock = some g ∨ w6.heap.size ≤ g) → PutI w w7 wb v5 v7 os (i + 1)) := fun w7 v7 => (HI.out.step (w7 := w7) (v7 := v7) HOI.out G1.out H5.out T5.out b6).2.2
            obtain ⟨q6, c6, rfl⟩ := (ow_ls (owns_base h6 (Nat.zero_le _))).form
            have LE := hid (congrArg List.length (pre_succ HOI.out)).symm
            rw [LE.out]
            generalize (pre os (i + 1)).length = M at ST
            clear s1 s2 s3 h6 b6 LE
            go_wp2_with (at_builtin; refine wpApp1 EN Try.underlying42 infoN rfl (by decide) rfl _ _ rfl 0 u5 i _ rfl OE.out M rfl (by omega) (by unfold maxLen; omega) (Nat.zero_le _) _ rfl _ ?_)
            intro g cap w7 h7 g7 a7
            have HN := hid (ST.out w7 _ g cap h7 g7 rfl a7)
            clear h7 g7 a7
            go_wp2_with fail
            go_roundw
            case rel => exact ⟨i + 1, v5, by omega, by go_num, HN.out⟩
            case measure => simp [RowKit.intOf]; omega
          · have hp : piece ⟨kind, two, v, n, .slice pu l.length cu, l⟩ = form (cutl l).length ++ cutl l := by unfold piece; rw [if_neg k1, if_neg k2, if_neg k3]
            have hcl := (cutl_len l).1
            have hB1 : Below w.heap.size w W1 := HI.out.bl.trans (G1.out.below.mono HI.out.bl.size)
            have hct := cut_any W1 (HOK.out.below hB1).lb HOK.out.cap
            have hc := wbytes_any (b := cutv (.slice pu l.length cu)) (l := cutl l) W1 WT.out (fun W hk => cutv_lb ((HOK.out.below (hB1.trans (hk.below hB1.size HI.out.gv))).lb)) (by have := PL.out; omega) (by omega)
            rw [show putE 0 (cutl l) = 0 by unfold putE; rw [if_pos rfl, if_neg (by omega)], show putB 0 (pre os i) (cutl l) = pre os i ++ piece ⟨kind, two, v, n, .slice pu l.length cu, l⟩ by rw [hp]; unfold putB; rw [if_pos rfl, if_neg (by omega), List.append_assoc]] at hc
            clear hp hcl hB1
            go_wp2_with fail
            rw [← hW1, ← hB]
            clear hW1 hB c0 c1 c2 c3 c4
            go_wp2_with fail
            refine hct.mono ?_
            rintro r w5 ⟨rfl, rfl⟩
            go_wp2_with fail
            refine hc.mono ?_
            rintro r w5 ⟨v5, rfl, h5, t5⟩
            have H5 := hid h5
            have T5 := hid t5
            clear h5 t5 hc hct
            go_wp2_with fail
            refine (wdata_any w5 H5.out (by rw [List.length_append]; have := PL.out; omega)).mono ?_
            rintro r w6 ⟨d6, rfl, h6, b6⟩
            obtain ⟨s1, s2, s3⟩ := HI.out.step (w7 := w6) (v7 := .slice none 0 0) HOI.out G1.out H5.out T5.out b6
            have OE := hid s2
            have ST : Hid (∀ w7 v7 g cap, w7.ownsRow 0 3 1 v7 (i + 1) (fl EN (endl os i) ++ EN.enc (pre os (i + 1)).length) → w6.grownBy w7 u5.ownBlock → v7 = .slice (some ⟨g, 0, none⟩) (i + 1) cap → (u5.ownBlock = some g ∨ w6.heap.size ≤ g) → PutI w w7 wb v5 v7 os (i + 1)) := fun w7 v7 => (HI.out.step (w7 := w7) (v7 := v7) HOI.out G1.out H5.out T5.out b6).2.2
            obtain ⟨q6, c6, rfl⟩ := (ow_ls (owns_base h6 (Nat.zero_le _))).form
            have LE := hid (congrArg List.length (pre_succ HOI.out)).symm
            rw [LE.out]
            generalize (pre os (i + 1)).length = M at ST
            clear s1 s2 s3 h6 b6 LE
            go_wp2_with (at_builtin; refine wpApp1 EN Try.underlying42 infoN rfl (by decide) rfl _ _ rfl 0 u5 i _ rfl OE.out M rfl (by omega) (by unfold maxLen; omega) (Nat.zero_le _) _ rfl _ ?_)
            intro g cap w7 h7 g7 a7
            have HN := hid (ST.out w7 _ g cap h7 g7 rfl a7)
            clear h7 g7 a7
            go_wp2_with fail
            go_roundw
            case rel => exact ⟨i + 1, v5, by omega, by go_num, HN.out⟩
            case measure => simp [RowKit.intOf]; omega
    · have hltz : ¬ (i : Int) < (os.length : Int) := by omega
      have hie : i = os.length := by omega
      subst hie
      have her := werr_any wr HI.out.wt
      have hda := wdata_any wr HI.out.wt (by have := pre_len (fun i o h => (HC.out i o h).1) os.length; omega)
      go_wp2_with fail
      refine her.mono ?_
      rintro r w5 ⟨rfl, rfl⟩
      go_wp2_with fail
      refine hda.mono ?_
      rintro r w6 ⟨d6, rfl, h6, b6⟩
      have E6 := hid (owns_below HI.out.ends b6)
      have D6 := hid h6
      have B6 := hid (HI.out.bl.trans (b6.mono HI.out.bl.size))
      clear h6 b6 her hda
      go_wp2_with fail
      go_ret2
      refine ⟨_, _, rfl, owns_base D6.out (Nat.zero_le _), ?_, B6.out⟩
      have := E6.out
      have e := endl_len os os.length
      exact owns_ls (E := EN) (by rw [e]; exact this)
end Go.Proofs.Ytgojhhdjpkilmaa.Wi
