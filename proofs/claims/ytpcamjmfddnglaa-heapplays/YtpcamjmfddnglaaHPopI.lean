import Derived.Test.YtpcamjmfddnglaaHFaceI
import Derived.Test.YtpcamjmfddnglaaHDownI
import Derived.Test.YtpcamjmfddnglaaLClear
namespace Go.Proofs.Ytpcamjmfddnglaa.Hi
open Go.RowKit Go.Sort Hp
attribute [local go_sem ↓] Go.wp_at_zero Go.wp_at_succ

theorem own_eq {g n c k : Nat} (h : (Value.slice (some ⟨g, 0, none⟩) n c).ownBlock = some k) : g = k := by simpa [Value.ownBlock] using h
theorem zeroI (w : World) : (zeroValue 86).run Try.prog w = .ok (.agg #[.int .i64 0, .int .u64 0]) w := by kernel_rfl
set_option maxHeartbeats 1000000 in
theorem pop_none {hb ff np : Nat} {v : Value} (w : World) (hH : Hb w hb ff v [] np) : Calls Try.prog 27 #[.pointer (some ⟨hb, 0, none⟩)] w fun e w' => e = .returned (ans zt false) ∧ Below w.heap.size w w' := by
  have hpk : ∀ W : World, Gr w W → Calls Try.prog 28 #[.pointer (some ⟨hb, 0, none⟩)] W fun e w' => e = .returned (ans zt false) ∧ Gr W w' := fun W h => peek_none W (hH.gr h)
  clear hH
  go_enter Try.func27, Try.ntmps27
  go_wp2_with fail
  refine (hpk _ (Gr.refl _)).mono ?_
  rintro e w1 ⟨rfl, hg1⟩
  go_wp2
  go_ret2
  exact ⟨rfl, hg1.below⟩
/-- What Pop holds as it moves items. -/
structure Po (w2 : World) (hb ff np B2 g cap : Nat) (s : It) (M0 : List It) (r : Th → Th → Bool) (M : List It) (i : Nat) (mv : It) (wr : World) : Prop where
  inv : (M0 = [] ∧ M = [] ∧ i = 0) ∨ PopInv (ahd r) M0 s M i mv
  hp : Hb wr hb ff (.slice (some ⟨g, 0, none⟩) (M0.length + 1) cap) (M ++ [s]) np
  bx : wr.heap[B2]? = some (.cells #[.int .i64 mv.1, .int .u64 (mv.2 : Nat)] 86 (0, 0))
  kp : Kp (fun k => k = g ∨ k = B2) w2 wr
  ne : B2 ≠ g ∧ B2 ≠ hb
theorem Po.len {w2 wr : World} {hb ff np B2 g cap i : Nat} {s mv : It} {M0 M : List It} {r : Th → Th → Bool} (h : Po w2 hb ff np B2 g cap s M0 r M i mv wr) : M.length = M0.length := by
  rcases h.inv with ⟨h1, h2, _⟩ | h
  · rw [h1, h2]
  · exact h.len
theorem Po.row {w2 wr : World} {hb ff np B2 g cap i : Nat} {s mv : It} {M0 M : List It} {r : Th → Th → Bool} (h : Po w2 hb ff np B2 g cap s M0 r M i mv wr) : wr.ownsRow 0 86 2 (.slice (some ⟨g, 0, none⟩) (M0.length + 1) cap) (M0.length + 1) (fl EI (M ++ [s])) := by
  have := h.hp.own
  rw [List.length_append, h.len] at this
  exact this
/-- A box is set anew. -/
theorem box_set {w : World} {b : Nat} {x y : It} (h : w.heap[b]? = some (.cells #[.int .i64 x.1, .int .u64 (x.2 : Nat)] 86 (0, 0))) : ((w.setCell ⟨b, 0, none⟩ (.int .i64 y.1)).setCell ⟨b, 1, none⟩ (.int .u64 (y.2 : Nat))).heap[b]? = some (.cells #[.int .i64 y.1, .int .u64 (y.2 : Nat)] 86 (0, 0)) ∧ Kp (fun k => k = b) w ((w.setCell ⟨b, 0, none⟩ (.int .i64 y.1)).setCell ⟨b, 1, none⟩ (.int .u64 (y.2 : Nat))) := by
  have e0 := setCell_eq_setRow w b 0 _ _ _ (.int .i64 y.1) h
  have h0 := setRow_heap w b _ ((#[.int .i64 x.1, .int .u64 (x.2 : Nat)] : Array Value).setIfInBounds 0 (.int .i64 y.1)) _ _ h
  rw [← e0] at h0
  have k0 : Kp (fun k => k = b) w (w.setCell ⟨b, 0, none⟩ (.int .i64 y.1)) := by rw [e0]; exact ⟨rfl, rfl, rfl, by simp [World.setRow], fun k _ hne => setRow_other _ b k _ (by omega)⟩
  have e1 := setCell_eq_setRow (w.setCell ⟨b, 0, none⟩ (.int .i64 y.1)) b 1 _ _ _ (.int .u64 (y.2 : Nat)) h0
  have h1 := setRow_heap (w.setCell ⟨b, 0, none⟩ (.int .i64 y.1)) b _ (((#[.int .i64 x.1, .int .u64 (x.2 : Nat)] : Array Value).setIfInBounds 0 (.int .i64 y.1)).setIfInBounds 1 (.int .u64 (y.2 : Nat))) _ _ h0
  rw [← e1] at h1
  have k1 : Kp (fun k => k = b) (w.setCell ⟨b, 0, none⟩ (.int .i64 y.1)) ((w.setCell ⟨b, 0, none⟩ (.int .i64 y.1)).setCell ⟨b, 1, none⟩ (.int .u64 (y.2 : Nat))) := by rw [e1]; exact ⟨rfl, rfl, rfl, by simp [World.setRow], fun k _ hne => setRow_other _ b k _ (by omega)⟩
  exact ⟨by simpa using h1, (k0.trans k1 (fun _ _ h => h))⟩
theorem Po.move {w2 wr w3 w4 : World} {hb ff np B2 g cap i : Nat} {s mv z : It} {M0 M : List It} {r : Th → Th → Bool} (h : Po w2 hb ff np B2 g cap s M0 r M i mv wr) (h0 : 0 < i) (hz : (M ++ [s])[i]? = some z)
    (b1 : w3.heap[B2]? = some (.cells #[.int .i64 z.1, .int .u64 (z.2 : Nat)] 86 (0, 0))) (b2 : Kp (fun k => k = B2) wr w3) (o4 : w4.ownsRow 0 86 2 (.slice (some ⟨g, 0, none⟩) (M0.length + 1) cap) (M0.length + 1) (fl EI ((M ++ [s]).set i mv))) (k4 : Kp (fun k => k = g) w3 w4) :
    Po w2 hb ff np B2 g cap s M0 r (M.set i mv) (par i) z w4.drew := by
  have hgb : hb ≠ g := fun e => h.hp.off (by rw [e]; rfl)
  rcases h.inv with ⟨_, _, e⟩ | hi
  · omega
  · obtain ⟨y, hy, hs⟩ := hi.step h0
    have hil : i < M.length := by rw [hi.len]; exact hi.ilt
    rw [List.getElem?_append_left hil, hy] at hz
    cases hz
    have kD : Kp (fun k => k = g ∨ k = B2) wr w4.drew := ((b2.mono (fun _ h => Or.inr h)).trans (k4.mono (fun _ h => Or.inl h)) (fun _ _ h => h)).trans (Kp.of_gr (S := fun k => k = g ∨ k = B2) (Gr.refl _).drew) (fun _ _ h => h)
    rw [List.set_append_left _ _ hil] at o4
    refine ⟨Or.inr hs, ⟨(kD.block hb h.hp.lt (fun e => e.elim hgb (fun e => h.ne.2 e.symm))).trans h.hp.blk, ?_, h.hp.off⟩, ?_, h.kp.trans kD (fun _ _ h => h), h.ne⟩
    · rw [List.length_append, List.length_set, hi.len]
      exact owns_below o4 (Gr.refl _).drew.below
    · exact ((Gr.refl w4).drew.below.block B2 (Nat.lt_of_lt_of_le (Array.getElem?_eq_some_iff.1 b1).1 k4.size)).trans ((k4.block B2 (Array.getElem?_eq_some_iff.1 b1).1 h.ne.1).trans b1)
/-- What is left at the end. -/
theorem Po.done {w2 wr : World} {hb ff np B2 g cap : Nat} {s mv t : It} {M0 M : List It} {r : Th → Th → Bool} (h : Po w2 hb ff np B2 g cap s M0 r M 0 mv wr) (ht : (M0 ++ [s])[0]? = some t) :
    ((M ++ [s]).set 0 mv).take M0.length = M.set 0 mv ∧ (t :: M.set 0 mv).Perm (M0 ++ [s]) ∧ (Tot (ahd r) → Heapy (ahd r) (M0 ++ [s]) → Heapy (ahd r) (M.set 0 mv)) := by
  rcases h.inv with ⟨rfl, rfl, _⟩ | hi
  · simp at ht
    subst ht
    exact ⟨by simp, by simp, fun _ _ i x y _ hx _ => by simp at hx⟩
  · have hil : 0 < M.length := by rw [hi.len]; exact hi.ilt
    obtain ⟨⟨u, hu, hp⟩, hh⟩ := hi.done
    rw [List.getElem?_append_left hi.ilt, hu] at ht
    cases ht
    refine ⟨?_, hp.trans ?_, fun hA hH => hh hA ?_⟩
    · rw [List.set_append_left _ _ hil, List.take_left' (by rw [List.length_set, hi.len])]
    · exact (List.perm_append_comm (l₁ := [s]) (l₂ := M0))
    · have := hH.take M0.length
      rwa [List.take_left' rfl] at this
set_option maxHeartbeats 2000000 in
set_option maxRecDepth 100000 in
theorem pop_any {hb ff np : Nat} {v : Value} {L : List It} {t : It} {r : Th → Th → Bool} (w : World) (hH : Hb w hb ff v L np) (ht : L[0]? = some t) (hl : L.length ≤ 140737488355328) (hF : FnOk ff r) :
    Calls Try.prog 27 #[.pointer (some ⟨hb, 0, none⟩)] w fun e w' => e = .returned (ans t.1 true) ∧ ∃ v' L', Hb w' hb ff v' L' np ∧ (t :: L').Perm L ∧ (Tot (ahd r) → Heapy (ahd r) L → Heapy (ahd r) L') ∧ Turn hb v v' w w' := by
  have hmx : Try.prog.follows .mixedOrders = true := by kernel_rfl
  have hpk : ∀ W : World, Gr w W → Calls Try.prog 28 #[.pointer (some ⟨hb, 0, none⟩)] W fun e w' => e = .returned (ans t.1 true) ∧ Gr W w' := fun W h => peek_any W (hH.gr h) ht
  obtain ⟨M0, s, rfl⟩ : ∃ M0 s, L = M0 ++ [s] := by
    have hne : L ≠ [] := by intro e; rw [e] at ht; simp at ht
    exact ⟨L.dropLast, L.getLast hne, (List.dropLast_concat_getLast hne).symm⟩
  have HT : Hid ((M0 ++ [s])[0]? = some t) := ht
  have hlm : M0.length + 1 ≤ 140737488355328 := by simpa using hl
  obtain ⟨g, cap, rfl, hcp⟩ : ∃ g cap, v = .slice (some ⟨g, 0, none⟩) (M0.length + 1) cap ∧ M0.length + 1 ≤ cap ∧ cap ≤ maxLen := by
    obtain ⟨h1, ⟨_, h0⟩ | ⟨g', cap', cur, hv, _, _, hn, hm, _⟩⟩ := id hH.own
    · simp at h0
    · rw [List.length_append] at hv hn
      exact ⟨g', cap', hv, hn, hm⟩
  obtain ⟨hcp1, hcp2⟩ := hcp
  unfold maxLen at hcp2
  have HH0 : Hid (Hb w hb ff (.slice (some ⟨g, 0, none⟩) (M0.length + 1) cap) (M0 ++ [s]) np) := hH
  clear hH ht hl
  obtain ⟨W0, hW0⟩ : ∃ W0, W0 = w := ⟨_, rfl⟩
  have G0 : Gr w W0 := by rw [hW0]; exact Gr.refl _
  go_enter Try.func27, Try.ntmps27
  go_wp2_with fail
  rw [hW0] at G0
  clear hW0
  refine (hpk _ G0).mono ?_
  rintro e w1 ⟨rfl, hg1⟩
  clear hpk
  have HG1 : Hid (Gr w w1) := G0.trans hg1
  have HH1 : Hid (Hb w1 hb ff (.slice (some ⟨g, 0, none⟩) (M0.length + 1) cap) (M0 ++ [s]) np) := HH0.out.gr HG1.out
  have k1 := HH1.out.c1
  have kl := HH1.out.lt
  obtain ⟨b1, o1, c1, e1, z1, x0, x1⟩ := ls_at HH1.out.lst (j := M0.length) (x := s) (by simp)
  clear z1
  simp only [Value.slice.injEq, Option.some.injEq, Addr.mk.injEq, and_true] at e1
  obtain ⟨⟨rfl, rfl⟩, -, rfl⟩ := e1
  rw [Nat.zero_add] at x0 x1
  have hgl : g < w1.heap.size := HH1.out.row g rfl
  have m0 : (0 : Int) ≤ (M0.length : Int) := by omega
  have m1 : (M0.length : Int) < (M0.length : Int) + 1 := by omega
  obtain ⟨B2, hB2⟩ : ∃ B2, B2 = w1.heap.size := ⟨_, rfl⟩
  obtain ⟨W2, hW2⟩ : ∃ W2, W2 = w1.alloc (.cells #[.int .i64 s.1, .int .u64 (s.2 : Nat)] 86) := ⟨_, rfl⟩
  have hBX : W2.heap[B2]? = some (.cells #[.int .i64 s.1, .int .u64 (s.2 : Nat)] 86 (0, 0)) := by rw [hW2, hB2]; exact heap_new' _ _
  have G2 : Gr w1 W2 := by rw [hW2]; exact (Gr.refl _).alloc _
  have HBN : Hid (B2 ≠ g ∧ B2 ≠ hb ∧ w.heap.size ≤ B2) := by
    have h1 := HH0.out.lt
    have h2 := HH0.out.row g rfl
    have h3 := HG1.out.size
    refine ⟨?_, ?_, ?_⟩ <;> omega
  have HG2 : Hid (Gr w W2) := HG1.out.trans G2
  have HH2 : Hid (Hb W2 hb ff (.slice (some ⟨g, 0, none⟩) (M0.length + 1) cap) (M0 ++ [s]) np) := HH1.out.gr G2
  have HBX : Hid (W2.heap[B2]? = some (.cells #[.int .i64 s.1, .int .u64 (s.2 : Nat)] 86 (0, 0))) := hBX
  clear hg1 hBX G2
  go_upto_region 6 with fail
  rw [← hW2, ← hB2]
  clear hW2 hB2
  have hBl : B2 < W2.heap.size := (Array.getElem?_eq_some_iff.1 HBX.out).1
  obtain ⟨q0, q1⟩ : W2.cell? ⟨B2, 0, none⟩ = some (.int .i64 s.1) ∧ W2.cell? ⟨B2, 1, none⟩ = some (.int .u64 (s.2 : Nat)) := by simp [World.cell?, HBX.out]
  have hLs : Ls EI W2 (.slice (some ⟨g, 0, none⟩) M0.length cap) M0 := by
    have := HH2.out.lst.cut (k := M0.length) (by simp) cap
    simpa using this
  have S0 : (W2.drew.cell? ⟨hb, 0, none⟩ = some (fv ff) ∧ W2.drew.cell? ⟨hb, 1, none⟩ = some (.slice (some ⟨g, 0, none⟩) (M0.length + 1) cap) ∧ W2.drew.cell? ⟨B2, 0, none⟩ = some (.int .i64 s.1) ∧ W2.drew.cell? ⟨B2, 1, none⟩ = some (.int .u64 (s.2 : Nat)) ∧ hb < W2.drew.heap.size ∧ B2 < W2.drew.heap.size ∧ Ls EI W2.drew (.slice (some ⟨g, 0, none⟩) M0.length cap) M0) := ⟨HH2.out.c0, HH2.out.c1, q0, q1, HH2.out.lt, hBl, hLs.below (Gr.refl W2).drew.below⟩
  have keepG : ∀ W W' : World, (W.cell? ⟨hb, 0, none⟩ = some (fv ff) ∧ W.cell? ⟨hb, 1, none⟩ = some (.slice (some ⟨g, 0, none⟩) (M0.length + 1) cap) ∧ W.cell? ⟨B2, 0, none⟩ = some (.int .i64 s.1) ∧ W.cell? ⟨B2, 1, none⟩ = some (.int .u64 (s.2 : Nat)) ∧ hb < W.heap.size ∧ B2 < W.heap.size ∧ Ls EI W (.slice (some ⟨g, 0, none⟩) M0.length cap) M0) → Gr W W' → (W'.cell? ⟨hb, 0, none⟩ = some (fv ff) ∧ W'.cell? ⟨hb, 1, none⟩ = some (.slice (some ⟨g, 0, none⟩) (M0.length + 1) cap) ∧ W'.cell? ⟨B2, 0, none⟩ = some (.int .i64 s.1) ∧ W'.cell? ⟨B2, 1, none⟩ = some (.int .u64 (s.2 : Nat)) ∧ hb < W'.heap.size ∧ B2 < W'.heap.size ∧ Ls EI W' (.slice (some ⟨g, 0, none⟩) M0.length cap) M0) := by
    rintro W W' ⟨d0, d1, a0, a1, d2, d3, d4⟩ hg
    exact ⟨(hg.cell d2).trans d0, (hg.cell d2).trans d1, (hg.cell d3).trans a0,(hg.cell d3).trans a1, Nat.lt_of_lt_of_le d2 hg.size, Nat.lt_of_lt_of_le d3 hg.size, d4.below hg.below⟩
  have hdown : Calls Try.prog 46 #[.pointer (some ⟨hb, 0, none⟩), .slice (some ⟨g, 0, none⟩) M0.length cap, iv s] W2.drew fun e w' => ∃ at_ : Nat, e = .returned (.int .i64 at_) ∧ Dn (ahd r) M0 s at_ ∧ DnEnd (ahd r) M0 s at_ ∧ Gr W2.drew w' := downTo_any _ M0 s W2.drew HH2.out.lt HH2.out.c0 (hLs.below (Gr.refl W2).drew.below) (by omega) hF
  have m2 : (M0.length : Int) ≤ (cap : Int) := by omega
  have m3 : (M0.length : Int) ≤ (M0.length : Int) + 1 := by omega
  clear hLs q0 q1 x0 x1 k1 kl
  go_region_held3 (fun w' => w'.cell? ⟨hb, 0, none⟩ = some (fv ff) ∧ w'.cell? ⟨hb, 1, none⟩ = some (.slice (some ⟨g, 0, none⟩) (M0.length + 1) cap) ∧ w'.cell? ⟨B2, 0, none⟩ = some (.int .i64 s.1) ∧ w'.cell? ⟨B2, 1, none⟩ = some (.int .u64 (s.2 : Nat)) ∧ hb < w'.heap.size ∧ B2 < w'.heap.size ∧ Ls EI w' (.slice (some ⟨g, 0, none⟩) M0.length cap) M0)
    (first | exact S0 | exact keepG _ _ (by assumption) (by assumption) | assumption)
    (first | (go_at_call 46; refine hdown.mono ?_; rintro e w6 ⟨at_, rfl, hdn, hde, hg6⟩))
  have HP6 : Hid (Po W2 hb ff np B2 g cap s M0 r M0 at_ s w6) := by
    have hgg : Gr W2 w6 := (Gr.refl W2).drew.trans hg6
    refine ⟨?_, HH2.out.gr hgg, (hgg.below.block B2 hBl).trans HBX.out, Kp.of_gr hgg, HBN.out.1, HBN.out.2.1⟩
    by_cases hm : M0 = []
    · refine Or.inl ⟨hm, hm, ?_⟩
      rcases hdn.lt with h | h
      · exact h
      · rw [hm] at h; simp at h
    · exact Or.inr (PopInv.init hdn hde (List.length_pos_iff.2 hm))
  clear hdown S0 keepG hdn hde hg6
  go_wp2_with fail
  go_loopw [9] (fun s9 wr => ∃ (i : Nat) (M : List It) (mv : It), i ≤ M0.length ∧ s9 = .int .i64 i ∧ Hid (Po W2 hb ff np B2 g cap s M0 r M i mv wr)) (fun s9 _ => (RowKit.intOf s9).toNat)
  case atStart =>
    refine ⟨at_, M0, s, ?_, rfl, HP6.out⟩
    rcases HP6.out.inv with ⟨_, _, h⟩ | h
    · omega
    · exact Nat.le_of_lt h.ilt
  case round =>
    clear HP6
    obtain ⟨i, M, mv, hil, rfl, HP⟩ := hrel
    have HRO : Hid (wr.ownsRow 0 86 2 (.slice (some ⟨g, 0, none⟩) (M0.length + 1) cap) (M0.length + 1) (fl EI (M ++ [s]))) := HP.out.row
    have hfz := owns_fz HRO.out
    have r1 := HP.out.hp.c1
    have r1f := HP.out.hp.fz 1
    have hlr := HP.out.hp.lt
    have hglr : g < wr.heap.size := (HRO.out.lt g rfl).2
    have hBr : B2 < wr.heap.size := (Array.getElem?_eq_some_iff.1 HP.out.bx).1
    obtain ⟨q0, q1⟩ : wr.cell? ⟨B2, 0, none⟩ = some (.int .i64 mv.1) ∧ wr.cell? ⟨B2, 1, none⟩ = some (.int .u64 (mv.2 : Nat)) := by simp [World.cell?, HP.out.bx]
    obtain ⟨p0, p1⟩ : wr.frozen? ⟨B2, 0, none⟩ = false ∧ wr.frozen? ⟨B2, 1, none⟩ = false := by simp [World.frozen?, HP.out.bx]
    have hil1 : (i : Int) < (M0.length : Int) + 1 := by omega
    have hi0 : (0 : Int) ≤ (i : Int) := by omega
    obtain ⟨z, hz⟩ : ∃ z, (M ++ [s])[i]? = some z := ⟨(M ++ [s])[i]'(by rw [List.length_append, HP.out.len]; simp; omega), by rw [List.getElem?_eq_getElem]⟩
    obtain ⟨b1, o1, c1, e1, z1, y0, y1⟩ := ls_at HP.out.hp.lst hz
    simp only [Value.slice.injEq, Option.some.injEq, Addr.mk.injEq, and_true] at e1
    obtain ⟨⟨rfl, rfl⟩, -, rfl⟩ := e1
    rw [Nat.zero_add] at y0 y1
    have f0 := hfz (i * 2 + 0)
    have f1 := hfz (i * 2 + 1)
    rw [Nat.add_zero] at f0
    have HZ : Hid ((M ++ [s])[i]? = some z) := hz
    have hbg : B2 ≠ g := HBN.out.1
    have hgb : g ≠ B2 := fun e => HBN.out.1 e.symm
    have hbh : B2 ≠ hb := HBN.out.2.1
    have hhb : hb ≠ B2 := fun e => HBN.out.2.1 e.symm
    have hhg : hb ≠ g := fun e => HH0.out.off (by rw [e]; rfl)
    have hgh : g ≠ hb := fun e => HH0.out.off (by rw [← e]; rfl)
    clear hz z1 hfz
    by_cases hpos : 0 < i
    · have hposz : (0 : Int) < (i : Int) := by omega
      go_wp2_with fail
      go_region
      obtain ⟨hb1, hb2⟩ := box_set (y := z) HP.out.bx
      have hgk : ∀ k, (Value.slice (some ⟨g, 0, none⟩) (M0.length + 1) cap).ownBlock = some k → ¬ k = B2 := by
        intro k hk e
        have h : g = k := by simpa [Value.ownBlock] using hk
        exact hgb (h.trans e)
      have ho3 := owns_kp hb2 HRO.out hgk
      obtain ⟨ho4, hk4⟩ := owns_item (i := i) mv ho3
      have HP2 := hid (HP.out.move hpos HZ.out hb1 hb2 ho4 hk4)
      have hpa := par_lt hpos
      have HPA : Hid (par i < i) := hpa
      have hpar : ∀ W, Calls Try.prog 33 #[.int .i64 i] W fun e w' => e = .returned (.int .i64 (par i : Nat)) ∧ w' = W := fun W => parent_any i hpos (by omega) W
      clear hgk hb1 hb2 ho3 ho4 hk4 r1 q0 q1 p0 p1 y0 y1 f0 f1 hpa r1f
      go_wp2_with (go_at_call 33; refine (hpar _).mono ?_; rintro e w4 ⟨rfl, rfl⟩)
      go_roundw
      case rel => exact ⟨par i, _, _, by have := HPA.out; omega, rfl, HP2.out⟩
      case measure => simp [RowKit.intOf]; exact HPA.out
    · have hpz : ¬ (0 : Int) < (i : Int) := by omega
      have hi00 : i = 0 := by omega
      subst hi00
      simp only [Nat.zero_mul, Nat.zero_add] at y0 y1 f0 f1
      have hm00 : (0 : Int) < (M0.length : Int) + 1 := by omega
      go_wp2_with fail
      go_region
      obtain ⟨ho4, hk4⟩ := owns_item (i := 0) mv HRO.out
      simp only [Nat.zero_mul, Nat.zero_add] at ho4 hk4
      have ho7 := owns_below ho4 (Gr.refl _).drew.below
      have hk7 := hk4.trans (Kp.of_gr (S := fun k => k = g) (Gr.refl _).drew) (fun _ _ h => h)
      generalize World.drew _ = w7 at ho7 hk7 ⊢
      obtain ⟨hD1, hD2, hD3⟩ := HP.out.done HT.out
      obtain ⟨w9, hrun, ho9, hk9⟩ := owns_clear (P := Try.prog) (E := EI) (sT := 82) (z := .agg #[.int .i64 0, .int .u64 0]) (i := M0.length) 0 (cap - M0.length) Try.underlying82 zeroI rfl (fun j hj => by have hj' : j < 2 := hj; (match j, hj' with | 0, _ => rfl | 1, _ => rfl)) (by decide) ho7 (by rw [List.length_set, List.length_append, HP.out.len]; rfl) (by omega)
      have hrun : Sem.run Try.prog (Builtin.clear_ #[82] 0 #[.slice (some ⟨g, M0.length * 2, none⟩) 1 (cap - M0.length)]) w7 = .ok (.tuple #[]) w9 := by
        have e : M0.length + 1 - M0.length = 1 := by omega
        rw [e] at hrun
        exact hrun
      rw [hD1] at ho9
      have HK7 : Hid (Kp (fun k => k = g) wr w7) := hk7
      have HK9 : Hid (Kp (fun k => k = g) wr w9) := hk7.trans hk9 (fun _ _ h => h)
      have HO9 : Hid (w9.ownsRow 0 86 2 (.slice (some ⟨g, 0, none⟩) M0.length cap) M0.length (fl EI (M.set 0 mv))) := ho9
      have HBK : Hid (w9.heap[hb]? = some (.cells #[fv ff, .slice (some ⟨g, 0, none⟩) (M0.length + 1) cap, .int .u64 (np : Nat)] 84 (0, 0))) := (HK9.out.block hb hlr hhg).trans HP.out.hp.blk
      have a7 : w7.cell? ⟨hb, 1, none⟩ = some (.slice (some ⟨g, 0, none⟩) (M0.length + 1) cap) := (HK7.out.cell hlr hhg).trans r1
      have hl7 := Nat.lt_of_lt_of_le hlr HK7.out.size
      have a9 : w9.cell? ⟨hb, 1, none⟩ = some (.slice (some ⟨g, 0, none⟩) (M0.length + 1) cap) := (HK9.out.cell hlr hhg).trans r1
      have a9f : w9.frozen? ⟨hb, 1, none⟩ = false := by simp [World.frozen?, HBK.out]
      have hl9 := Nat.lt_of_lt_of_le hlr HK9.out.size
      have HD : Hid ((t :: M.set 0 mv).Perm (M0 ++ [s]) ∧ (Tot (ahd r) → Heapy (ahd r) (M0 ++ [s]) → Heapy (ahd r) (M.set 0 mv))) := ⟨hD2, hD3⟩
      have HML : Hid ((M.set 0 mv).length = M0.length) := by rw [List.length_set]; exact HP.out.len
      have z3 : ¬ cap = M0.length := by omega
      have z5 : ¬ cap = 0 := by omega
      clear ho4 hk4 ho7 hk7 hk9 ho9 hD1 hD2 hD3 r1 r1f q0 q1 p0 p1 y0 y1 f0 f1
      go_wp2
      obtain ⟨hs1, hs2⟩ := (blk_set HBK.out).1 (.slice (some ⟨g, 0, none⟩) M0.length cap)
      have ho10 := owns_kp hs2 HO9.out (fun k hk e => hgh ((own_eq hk).trans e))
      have hK9 : Kp (fun k => k = hb ∨ (Value.slice (some ⟨g, 0, none⟩) (M0.length + 1) cap).ownBlock = some k) w w9 := (Kp.of_gr HG2.out).trans ((HP.out.kp.trans (HK9.out.mono (fun _ h => Or.inl h)) (fun _ _ h => h))) (fun j hj h => by
        rcases h with h | h
        · exact Or.inr (by rw [h]; rfl)
        · have := HBN.out.2.2; omega)
      have hK10 := hK9.trans hs2 (fun _ _ h => Or.inl h)
      generalize w9.setCell ⟨hb, 1, none⟩ (.slice (some ⟨g, 0, none⟩) M0.length cap) = w10 at hs1 hs2 ho10 hK10 ⊢
      go_ret2
      refine ⟨rfl, _, M.set 0 mv, ⟨hs1, by rw [HML.out]; exact ho10, ?_⟩, HD.out.1, HD.out.2, hK10, fun q hq => Or.inl hq⟩
      simpa [Value.ownBlock] using hgh
end Go.Proofs.Ytpcamjmfddnglaa.Hi
