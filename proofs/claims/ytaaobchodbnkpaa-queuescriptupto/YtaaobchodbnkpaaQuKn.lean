import Derived.Test.YtaaobchodbnkpaaQuEq
import Derived.Test.YtaaobchodbnkpaaQuCnt2
namespace Go.Proofs.Ytaaobchodbnkpaa.Qe
open Go.RowKit Go.Sort
attribute [local go_sem ↓] Go.wp_at_zero Go.wp_at_succ
theorem nil_places (w : World) : Calls Try.prog 28 #[.pointer none] w fun e w' => e = .returned (.int .i64 0) ∧ w' = w := by
  go_enter Try.func28, Try.ntmps28
  go_wp2
  go_ret
  exact ⟨rfl, rfl⟩
theorem nil_isPlace (w : World) : Calls Try.prog 25 #[.pointer none, .int .i64 0] w fun e w' => e = .returned (.bool false) ∧ w' = w := by
  have h := nil_places w
  go_enter Try.func25, Try.ntmps25
  go_wp2_with fail
  refine h.mono ?_
  rintro e w1 ⟨rfl, rfl⟩
  go_wp2
  go_ret
  exact ⟨rfl, rfl⟩
theorem nil_put (x : Ms) (w : World) : Calls Try.prog 8 #[.pointer none, mv x] w fun e w' => e = .returned (.int .i64 0) ∧ Gr w w' := by
  go_enter Try.func8, Try.ntmps8
  go_wp2
  go_ret
  exact ⟨rfl, (Gr.refl _).alloc _⟩
set_option maxHeartbeats 1000000 in
theorem nil_take (w : World) : Calls Try.prog 9 #[.pointer none, .int .i64 0] w fun e w' => e = .returned (tkv (mz, 0)) ∧ Below w.heap.size w w' := by
  obtain ⟨W1, hW1⟩ : ∃ W1, W1 = w.alloc (.cells #[.int .i64 0, .int .u64 0, .int .u64 0, .int .u64 0, .int .u64 0, .int .u64 0] 36) := ⟨_, rfl⟩
  obtain ⟨b1, hb1⟩ : ∃ b1, b1 = w.heap.size := ⟨_, rfl⟩
  have G1 : Gr w W1 := by rw [hW1]; exact (Gr.refl _).alloc _
  have HBX : Hid (W1.heap[b1]? = some (.cells #[.int .i64 0, .int .u64 0, .int .u64 0, .int .u64 0, .int .u64 0, .int .u64 0] 36 (0, 0))) := by rw [hW1, hb1]; exact heap_new' _ _
  obtain ⟨q0, q1, q2, q3, q4, q5⟩ : Mc W1 b1 0 mz := by simp [Mc, World.cell?, HBX.out]
  have hbl : b1 < W1.heap.size := (Array.getElem?_eq_some_iff.1 HBX.out).1
  have fz : ∀ q, W1.frozen? ⟨b1, q, none⟩ = false := fun q => by simp [World.frozen?, HBX.out]
  have HZ0 := hid (set6_blk (y := mz) mz HBX.out)
  have HG := hid G1
  have HB := hid hb1
  go_enter Try.func9, Try.ntmps9
  go_upto_region 1 with fail
  rw [← hW1, ← hb1]
  clear hW1 hb1
  go_wp2_with fail
  obtain ⟨⟨r0, r1, r2, r3, r4, r5⟩, hk7⟩ := HZ0.out
  have HK7 := hid hk7
  generalize ((((((W1.setCell ⟨b1, 0, none⟩ (.int .i64 0)).setCell ⟨b1, 1, none⟩ (.int .u64 0)).setCell ⟨b1, 2, none⟩ (.int .u64 0)).setCell ⟨b1, 3, none⟩ (.int .u64 0)).setCell ⟨b1, 4, none⟩ (.int .u64 0)).setCell ⟨b1, 5, none⟩ (.int .u64 0)) = W7 at *
  refine bodyPost_ret (v := tkv (mz, 0)) (by simp [results, Try.results9, go_sem, r0, r1, r2, r3, r4, r5]) rfl ?_
  exact ⟨rfl, HG.out.below.trans (HK7.out.below HG.out.size (fun k e => by have := HB.out; omega))⟩
theorem nil_drain (w : World) : Calls Try.prog 10 #[.pointer none, .int .i64 0] w fun e w' => e = .returned (.tuple #[.slice none 0 0, .int .i64 0]) ∧ w' = w := by
  go_enter Try.func10, Try.ntmps10
  go_wp2
  exact bodyPost_ret (v := .tuple #[.slice none 0 0, .int .i64 0]) (by simp [results, Try.results10, go_sem]) rfl ⟨rfl, rfl⟩
theorem nil_list (w : World) : Calls Try.prog 22 #[.pointer none, .int .i64 0] w fun e w' => e = .returned (.slice none 0 0) ∧ w' = w := by
  have h := nil_isPlace w
  go_enter Try.func22, Try.ntmps22
  go_wp2_with fail
  refine h.mono ?_
  rintro e w1 ⟨rfl, rfl⟩
  go_wp2
  go_ret
  exact ⟨rfl, rfl⟩
theorem nil_len (w : World) : Calls Try.prog 11 #[.pointer none, .int .i64 0] w fun e w' => e = .returned (.int .i64 0) ∧ w' = w := by
  have h := nil_isPlace w
  go_enter Try.func11, Try.ntmps11
  go_wp2_with fail
  refine h.mono ?_
  rintro e w1 ⟨rfl, rfl⟩
  go_wp2
  go_ret
  exact ⟨rfl, rfl⟩
theorem nil_copy (w : World) : Calls Try.prog 18 #[.pointer none] w fun e w' => e = .returned (.pointer none) ∧ w' = w := by
  go_enter Try.func18, Try.ntmps18
  go_wp2
  go_ret
  exact ⟨rfl, rfl⟩
set_option maxHeartbeats 1000000 in
theorem nil_total (w : World) : Calls Try.prog 13 #[.pointer none] w fun e w' => e = .returned (.int .i64 0) ∧ w' = w := by
  have h := nil_places w
  go_enter Try.func13, Try.ntmps13
  go_wp2_with fail
  refine h.mono ?_
  rintro e w1 ⟨rfl, rfl⟩
  go_wp2_with fail
  go_loopw [3, 7] (fun s3 s7 wr => s3 = .int .i64 0 ∧ s7 = .int .i64 0 ∧ wr = w1) (fun _ _ _ => 0)
  case atStart => exact ⟨rfl, rfl, rfl⟩
  case round =>
    obtain ⟨rfl, rfl, rfl⟩ := hrel
    go_wp2
    go_ret
    exact ⟨rfl, rfl⟩
set_option maxHeartbeats 1000000 in
theorem nil_counts (w : World) : Calls Try.prog 14 #[.pointer none] w fun e w' => e = .returned (.slice none 0 0) ∧ w' = w := by
  have h := nil_places w
  go_enter Try.func14, Try.ntmps14
  go_wp2_with fail
  refine h.mono ?_
  rintro e w1 ⟨rfl, rfl⟩
  go_wp2_with fail
  go_loopw [3, 7] (fun s3 s7 wr => s3 = .slice none 0 0 ∧ s7 = .int .i64 0 ∧ wr = w1) (fun _ _ _ => 0)
  case atStart => exact ⟨rfl, rfl, rfl⟩
  case round =>
    obtain ⟨rfl, rfl, rfl⟩ := hrel
    go_wp2
    go_ret
    exact ⟨rfl, rfl⟩
abbrev kA : Ms := ⟨1, 5, 0, 0, 7, 8⟩
abbrev kB : Ms := ⟨1, 0, 0, 0, 0, 0⟩
abbrev kC : Ms := ⟨3, 0, 0, 0, 0, 0⟩
abbrev k0 : Nat → List Ms := fun _ => []
abbrev k1 := ptn 3 k0 kA
abbrev k2 := ptn 3 k1 kB
abbrev k3 := ptn 3 k2 kC
abbrev k4 := tkn 3 k3 1
abbrev k5 := tkn 3 k4 2
theorem kn_a : tk 3 k3 1 = (kA, 0) := rfl
theorem kn_b : tk 3 k4 2 = (mz, 43) := rfl
theorem kn_l : (lst 3 k3 1).length = 2 := rfl
theorem kn_t : tot 3 k5 = 1 := rfl
theorem kn_c : ctsTo k5 3 = [⟨1, 0, 0, 0, 1⟩] := by
  have h1 : gct [(0, 0, 0)] = [((0, 0, 0), 1)] := by simp [gct, grp, addT]
  have e0 : k5 0 = [] := rfl
  have e1 : k5 1 = [kB] := rfl
  have e2 : k5 2 = [] := rfl
  have hn : gct [] = [] := by simp [gct, grp]
  simp only [ctsTo, cat, e0, e1, e2, List.map_nil, List.map_cons, hn, List.nil_append, List.append_nil]
  rw [show tmo kB = (0, 0, 0) from rfl, h1]
  rfl
/-- The queue of known: all its blocks are new, and none is one of the boxes B. -/
def Kw (w : World) (B : Nat → Option Ms) (qb K : Nat) (Q : Nat → List Ms) (W : World) : Prop := Pq W (fun k => w.heap.size ≤ k ∧ B k = none) qb 3 K Q ∧ Below w.heap.size w W ∧ ∀ b x, B b = some x → W.heap[b]? = some (.cells #[.int .i64 x.at_, .int .u64 x.a, .int .u64 x.b, .int .u64 x.c, .int .u64 x.k, .int .u64 x.v] 36 (0, 0)) ∧ w.heap.size ≤ b
def bx (B : Nat → Option Ms) (b : Nat) (x : Ms) : Nat → Option Ms := fun k => if k = b then some x else B k
section
variable {w W W' : World} {B : Nat → Option Ms} {qb K K' : Nat} {Q Q' : Nat → List Ms}
theorem Kw.turn (h : Kw w B qb K Q W) (hP : Pq W' (nx (fun k => w.heap.size ≤ k ∧ B k = none) W W') qb 3 K' Q') (hk : Kp (fun k => w.heap.size ≤ k ∧ B k = none) W W') : Kw w B qb K' Q' W' := by
  refine ⟨hP.mono (fun k _ hk => hk.elim id (fun h2 => ⟨Nat.le_trans h.2.1.size h2.1, ?_⟩)) (Nat.le_refl _), h.2.1.trans (hk.below h.2.1.size (fun k h => h.1)), fun b x hb => ?_⟩
  · cases e : B k with
    | none => rfl
    | some x =>
      have := (Array.getElem?_eq_some_iff.1 (h.2.2 k x e).1).1
      omega
  · obtain ⟨h1, h2⟩ := h.2.2 b x hb
    exact ⟨(hk.block b (Array.getElem?_eq_some_iff.1 h1).1 (fun e => by rw [hb] at e; cases e.2)).trans h1, h2⟩
theorem Kw.below (h : Kw w B qb K Q W) (hB : Below W.heap.size W W') : Kw w B qb K Q W' :=
  ⟨h.1.below hB, h.2.1.trans (hB.mono h.2.1.size), fun b x hb => ⟨(hB.block b (Array.getElem?_eq_some_iff.1 (h.2.2 b x hb).1).1).trans (h.2.2 b x hb).1, (h.2.2 b x hb).2⟩⟩
theorem Kw.same (h : Kw w B qb K Q W) (e : W' = W) : Kw w B qb K Q W' := by rw [e]; exact h
theorem Kw.box (h : Kw w B qb K Q W) {b : Nat} (hb : b = W.heap.size) (x : Ms) (e : W' = W.alloc (.cells #[.int .i64 x.at_, .int .u64 x.a, .int .u64 x.b, .int .u64 x.c, .int .u64 x.k, .int .u64 x.v] 36)) : Kw w (bx B b x) qb K Q W' := by
  have hG : Gr W W' := by rw [e]; exact (Gr.refl _).alloc _
  have h1 := h.below hG.below
  refine ⟨(h.1.mono (S' := fun k => w.heap.size ≤ k ∧ bx B b x k = none) (fun k hk hs => ⟨hs.1, ?_⟩) (Nat.le_refl _)).gr hG, h1.2.1, fun c y hc => ?_⟩
  · unfold bx; rw [if_neg (by omega)]; exact hs.2
  · unfold bx at hc
    split at hc
    · next e2 =>
      cases hc
      exact ⟨by rw [e, e2, hb]; exact heap_new' _ _, by rw [e2, hb]; exact h.2.1.size⟩
    · exact h1.2.2 c y hc
theorem Kw.cells (h : Kw w B qb K Q W) {b : Nat} {x : Ms} (hb : B b = some x) : Mc W b 0 x ∧ b < W.heap.size := ⟨by simp [Mc, World.cell?, (h.2.2 b x hb).1], (Array.getElem?_eq_some_iff.1 (h.2.2 b x hb).1).1⟩
end
set_option maxHeartbeats 8000000 in
set_option maxRecDepth 100000 in
theorem known_any (w : World) : Calls Try.prog 7 #[] w fun e w' => e = .returned (.bool true) ∧ Below w.heap.size w w' := by
  have heq := fun p a b c k v W => run_eqM p a b c k v W
  have hnew := new_any 3 w (by decide)
  go_enter Try.func7, Try.ntmps7
  go_wp2_with fail
  refine hnew.mono ?_
  rintro e w1 ⟨qb, rfl, h1⟩
  have HNW := hid (And.intro h1.out.2.1 h1.out.2.2)
  clear h1 hnew
  go_upto_region 3 with fail
  obtain ⟨w2, hw2⟩ : ∃ w2, w2 = w1.alloc (.cells #[.int .i64 1, .int .u64 5, .int .u64 0, .int .u64 0, .int .u64 7, .int .u64 8] 36) := ⟨_, rfl⟩
  obtain ⟨b3, hb3⟩ : ∃ b3, b3 = w1.heap.size := ⟨_, rfl⟩
  rw [← hw2, ← hb3]
  have K1 : Hid (Kw w (fun _ => none) qb 0 k0 w1) := ⟨HNW.out.1.mono (fun k _ hs => ⟨hs, rfl⟩) (Nat.le_refl _), HNW.out.2, fun b x h => by cases h⟩
  have K2 := hid (K1.out.box hb3 kA hw2)
  obtain ⟨B3, hB3⟩ : ∃ B3, B3 = bx (fun _ => none) b3 kA := ⟨_, rfl⟩
  rw [← hB3] at K2
  have HM3 : Hid (B3 b3 = some kA) := by rw [hB3]; simp [bx, Hid]
  clear hB3 K1
  clear hw2 hb3 HNW
  obtain ⟨⟨x0, x1, x2, x3, x4, x5⟩, hlx⟩ := K2.out.cells HM3.out
  have hc2 := put_any kA w2 K2.out.1 (by decide)
  rw [show pe 3 kA.at_ = 0 from rfl] at hc2
  go_wp2_with fail
  refine hc2.mono ?_
  rintro e w3 ⟨rfl, hP⟩
  have K3 := hid (K2.out.turn hP.out.1 hP.out.2)
  clear hP hc2
  clear x0 x1 x2 x3 x4 x5 hlx
  have hc3 := put_any kB w3 K3.out.1 (by decide)
  rw [show pe 3 kB.at_ = 0 from rfl] at hc3
  go_wp2_with fail
  refine hc3.mono ?_
  rintro e w4 ⟨rfl, hP⟩
  have K4 := hid (K3.out.turn hP.out.1 hP.out.2)
  clear hP hc3
  have hc4 := put_any kC w4 K4.out.1 (by decide)
  rw [show pe 3 kC.at_ = 42 from rfl] at hc4
  go_wp2_with fail
  refine hc4.mono ?_
  rintro e w5 ⟨rfl, hP⟩
  have K5 := hid (K4.out.turn hP.out.1 hP.out.2)
  clear hP hc4
  have hc5 := len_any 1 w5 K5.out.1
  rw [kn_l] at hc5
  go_wp2_with fail
  refine hc5.mono ?_
  rintro e w6 ⟨rfl, hE⟩
  have K6 := hid (K5.out.same hE)
  clear hE hc5
  have hc6 := take_any 1 w6 K6.out.1 (by decide)
  rw [kn_a] at hc6
  go_wp2_with fail
  refine hc6.mono ?_
  rintro e w7 ⟨rfl, hP⟩
  have K7 := hid (K6.out.turn hP.out.1 hP.out.2)
  clear hP hc6
  go_upto_region 6 with fail
  obtain ⟨w8, hw8⟩ : ∃ w, w = w7.alloc (.cells #[.int .i64 1, .int .u64 5, .int .u64 0, .int .u64 0, .int .u64 7, .int .u64 8] 36) := ⟨_, rfl⟩
  obtain ⟨b4, hbb4⟩ : ∃ b, b = w7.heap.size := ⟨_, rfl⟩
  rw [← hw8, ← hbb4]
  have K8 := hid (K7.out.box hbb4 kA hw8)
  obtain ⟨B8, hB8⟩ : ∃ B, B = bx B3 b4 kA := ⟨_, rfl⟩
  rw [← hB8] at K8
  have H8_b4 : Hid (B8 b4 = some kA) := by rw [hB8]; simp [bx, Hid]
  have H8_b3 : Hid (B8 b3 = some kA) := by rw [hB8]; unfold bx; rw [if_neg (by have := (K7.out.cells HM3.out).2; omega)]; exact HM3.out
  clear hw8 hbb4 hB8
  have hc8 := take_any 2 w8 K8.out.1 (by decide)
  rw [kn_b] at hc8
  go_wp2_with fail
  refine hc8.mono ?_
  rintro e w9 ⟨rfl, hP⟩
  have K9 := hid (K8.out.turn hP.out.1 hP.out.2)
  clear hP hc8
  go_upto_region 7 with fail
  obtain ⟨w10, hw10⟩ : ∃ w, w = w9.alloc (.cells #[.int .i64 0, .int .u64 0, .int .u64 0, .int .u64 0, .int .u64 0, .int .u64 0] 36) := ⟨_, rfl⟩
  obtain ⟨b6, hbb6⟩ : ∃ b, b = w9.heap.size := ⟨_, rfl⟩
  rw [← hw10, ← hbb6]
  have K10 := hid (K9.out.box hbb6 mz hw10)
  obtain ⟨B10, hB10⟩ : ∃ B, B = bx B8 b6 mz := ⟨_, rfl⟩
  rw [← hB10] at K10
  have H10_b6 : Hid (B10 b6 = some mz) := by rw [hB10]; simp [bx, Hid]
  have H10_b3 : Hid (B10 b3 = some kA) := by rw [hB10]; unfold bx; rw [if_neg (by have := (K9.out.cells H8_b3.out).2; omega)]; exact H8_b3.out
  have H10_b4 : Hid (B10 b4 = some kA) := by rw [hB10]; unfold bx; rw [if_neg (by have := (K9.out.cells H8_b4.out).2; omega)]; exact H8_b4.out
  clear hw10 hbb6 hB10
  obtain ⟨⟨x0, x1, x2, x3, x4, x5⟩, hlx⟩ := K10.out.cells H10_b3.out
  obtain ⟨⟨y0, y1, y2, y3, y4, y5⟩, hly⟩ := K10.out.cells H10_b4.out
  have hc10 := total_any w10 K10.out.1 (by decide)
  rw [kn_t] at hc10
  go_wp2_with fail
  refine hc10.mono ?_
  rintro e w11 ⟨rfl, hE⟩
  have K11 := hid (K10.out.same hE)
  clear hE hc10
  clear x0 x1 x2 x3 x4 x5 hlx y0 y1 y2 y3 y4 y5 hly
  have hc11 := counts_any w11 K11.out.1 (by decide) (by rw [kn_t]; decide)
  rw [kn_c] at hc11
  go_wp2_with fail
  refine hc11.mono ?_
  rintro e w12 ⟨u, rfl, ⟨q, c, rfl⟩, hR⟩
  have K12 := hid (K11.out.below hR.out.2)
  have HLS : Hid (Ls EC w12 (.slice q 1 c) [⟨1, 0, 0, 0, 1⟩]) := owns_ls (E := EC) hR.out.1
  clear hR hc11
  obtain ⟨w13, hw13⟩ : ∃ w, w = w12.alloc (.cells #[.int .i64 1, .int .u64 0, .int .u64 0, .int .u64 0, .int .i64 1] 51) := ⟨_, rfl⟩
  have hG12 : Gr w12 w13 := by rw [hw13]; exact (Gr.refl _).alloc _
  have hch := changes_eq (a := .slice q 1 c) (b := .slice (some ⟨w12.heap.size, 0, none⟩) 1 1) (l := [⟨1, 0, 0, 0, 1⟩]) w13 (HLS.out.below hG12.below) (Or.inr ⟨w12.heap.size, 0, 1, rfl, by rw [hw13]; simp, fun j u hj => ?hcell⟩) (by decide)
  case hcell =>
    rw [Nat.zero_add]
    have hb : w13.heap[w12.heap.size]? = some (.cells #[.int .i64 1, .int .u64 0, .int .u64 0, .int .u64 0, .int .i64 1] 51 (0, 0)) := by rw [hw13]; exact heap_new' _ _
    simp only [World.cell?, hb]
    simpa [fl, EC] using hj
  have K13 := hid (K12.out.below hG12.below)
  rw [hw13] at hch
  go_wp2_with fail
  refine hch.mono ?_
  rw [← hw13]
  rintro e w14 ⟨rfl, hgg⟩
  have K14 := hid (K13.out.below hgg.below)
  clear hgg hch hw13 hG12 HLS
  have hc14 := nil_take w14
  go_wp2_with fail
  refine hc14.mono ?_
  rintro e w15 ⟨rfl, hB⟩
  have K15 := hid (K14.out.below hB)
  clear hB hc14
  go_upto_region 11 with fail
  obtain ⟨w16, hw16⟩ : ∃ w, w = w15.alloc (.cells #[.int .i64 0, .int .u64 0, .int .u64 0, .int .u64 0, .int .u64 0, .int .u64 0] 36) := ⟨_, rfl⟩
  obtain ⟨b9, hbb9⟩ : ∃ b, b = w15.heap.size := ⟨_, rfl⟩
  rw [← hw16, ← hbb9]
  have K16 := hid (K15.out.box hbb9 mz hw16)
  obtain ⟨B16, hB16⟩ : ∃ B, B = bx B10 b9 mz := ⟨_, rfl⟩
  rw [← hB16] at K16
  have H16_b9 : Hid (B16 b9 = some mz) := by rw [hB16]; simp [bx, Hid]
  have H16_b3 : Hid (B16 b3 = some kA) := by rw [hB16]; unfold bx; rw [if_neg (by have := (K15.out.cells H10_b3.out).2; omega)]; exact H10_b3.out
  have H16_b4 : Hid (B16 b4 = some kA) := by rw [hB16]; unfold bx; rw [if_neg (by have := (K15.out.cells H10_b4.out).2; omega)]; exact H10_b4.out
  have H16_b6 : Hid (B16 b6 = some mz) := by rw [hB16]; unfold bx; rw [if_neg (by have := (K15.out.cells H10_b6.out).2; omega)]; exact H10_b6.out
  clear hw16 hbb9 hB16
  have hc16 := nil_drain w16
  go_wp2_with fail
  refine hc16.mono ?_
  rintro e w17 ⟨rfl, hE⟩
  have K17 := hid (K16.out.same hE)
  clear hE hc16
  obtain ⟨⟨x0, x1, x2, x3, x4, x5⟩, hlx⟩ := K17.out.cells H16_b3.out
  have hc17 := nil_put kA w17
  go_wp2_with fail
  refine hc17.mono ?_
  rintro e w18 ⟨rfl, hE⟩
  have K18 := hid (K17.out.below hE.below)
  clear hE hc17 x0 x1 x2 x3 x4 x5 hlx
  obtain ⟨⟨y0, y1, y2, y3, y4, y5⟩, hly⟩ := K18.out.cells H16_b9.out
  have hc18 := nil_list w18
  go_wp2_with fail
  refine hc18.mono ?_
  rintro e w19 ⟨rfl, hE⟩
  have K19 := hid (K18.out.same hE)
  clear hE hc18
  have hc19 := nil_len w19
  go_wp2_with fail
  refine hc19.mono ?_
  rintro e w20 ⟨rfl, hE⟩
  have K20 := hid (K19.out.same hE)
  clear hE hc19
  have hc20 := nil_total w20
  go_wp2_with fail
  refine hc20.mono ?_
  rintro e w21 ⟨rfl, hE⟩
  have K21 := hid (K20.out.same hE)
  clear hE hc20
  have hc21 := nil_counts w21
  go_wp2_with fail
  refine hc21.mono ?_
  rintro e w22 ⟨rfl, hE⟩
  have K22 := hid (K21.out.same hE)
  clear hE hc21
  have hc22 := nil_copy w22
  go_wp2_with fail
  refine hc22.mono ?_
  rintro e w23 ⟨rfl, hE⟩
  have K23 := hid (K22.out.same hE)
  clear hE hc22
  go_wp2_with fail
  go_ret
  exact ⟨rfl, K23.out.2.1⟩
end Go.Proofs.Ytaaobchodbnkpaa.Qe
