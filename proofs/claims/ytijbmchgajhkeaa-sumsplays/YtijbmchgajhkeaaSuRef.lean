import Derived.Test.YtijbmchgajhkeaaSuFill
namespace Go.Proofs.Ytijbmchgajhkeaa
open Go.RowKit Go.Sort Go.Maps Go.Shelf
attribute [local go_sem ↓] Go.wp_at_zero Go.wp_at_succ

/-- The document's Sums: all records, one behind the other. -/
def Rs (w : World) (S : Nat → Prop) (rb : Nat) (A : List Ct) : Prop := ∃ v, w.heap[rb]? = some (.cells #[v] 52 (0, 0)) ∧ S rb ∧ w.ownsRow 0 39 5 v A.length (fl EC A) ∧ ∀ g, v.ownBlock = some g → S g
section
variable {w w' : World} {S S' : Nat → Prop} {rb : Nat} {A : List Ct}
theorem Rs.kp (h : Rs w S rb A) (hk : Kp S' w w') (hd : ∀ k, S k → ¬ S' k) : Rs w' S rb A := by
  obtain ⟨v, h1, h2, h3, h4⟩ := h
  exact ⟨v, (hk.block rb (Array.getElem?_eq_some_iff.1 h1).1 (hd _ h2)).trans h1, h2, owns_kp hk h3 (fun k e => hd k (h4 k e)), h4⟩
theorem Rs.below (h : Rs w S rb A) (hb : Below w.heap.size w w') : Rs w' S rb A := h.kp (S' := fun _ => False) (Kp.of_below hb) fun _ _ h => h
theorem Rs.cut (h : Rs w S rb A) : Rs w (fun k => S k ∧ k < w.heap.size) rb A := by
  obtain ⟨v, h1, h2, h3, h4⟩ := h
  exact ⟨v, h1, ⟨h2, (Array.getElem?_eq_some_iff.1 h1).1⟩, h3, fun g hg => ⟨h4 g hg, (h3.lt g hg).2⟩⟩
theorem Rs.wide (h : Rs w S rb A) (hS : ∀ k, S k → S' k) : Rs w S' rb A := by
  obtain ⟨v, h1, h2, h3, h4⟩ := h
  exact ⟨v, h1, hS _ h2, h3, fun g hg => hS _ (h4 g hg)⟩
theorem Rs.lt (h : Rs w S rb A) : rb < w.heap.size := by
  obtain ⟨v, h1, h2, h3, h4⟩ := h
  exact (Array.getElem?_eq_some_iff.1 h1).1
end
/-- '==' of times. -/
theorem run_eqd (x y : Tm) (W : World) : Sem.run Try.prog (Op.equalIn 10000 32 (tv x) (tv y)) W = .ok (decide (x = y)) W := by
  rw [← teq_dec]
  exact run_eqT _ _ _ _ _ _ W
set_option maxHeartbeats 2000000 in
set_option maxRecDepth 100000 in
theorem rheld_any {S : Nat → Prop} {rb : Nat} {A : List Ct} (t : Tm) (w : World) (h : Rs w S rb A) (hA : A.length ≤ 1000000) :
    Calls Try.prog 55 #[.pointer (some ⟨rb, 0, none⟩), tv t] w fun e w' => e = .returned (.bool (decide (Hld A t))) ∧ Gr w w' := by
  obtain ⟨v, h1, h2, h3, h4⟩ := h
  obtain ⟨p, c, hv⟩ := owns_form h3
  subst hv
  obtain ⟨n, hn⟩ : ∃ n, n = A.length := ⟨_, rfl⟩
  rw [← hn] at h1 h3 hA
  have HN := hid hn
  obtain ⟨W1, hW1⟩ : ∃ W1, W1 = w.alloc (.cells #[.int .u64 t.1.1, .int .u64 t.1.2.1, .int .u64 t.1.2.2] 32) := ⟨_, rfl⟩
  obtain ⟨b1, hb1⟩ : ∃ b1, b1 = w.heap.size := ⟨_, rfl⟩
  have G1 : Gr w W1 := by rw [hW1]; exact (Gr.refl _).alloc _
  have HX1 : Hid (W1.heap[b1]? = some (.cells #[.int .u64 t.1.1, .int .u64 t.1.2.1, .int .u64 t.1.2.2] 32 (0, 0))) := by rw [hW1, hb1]; exact heap_new' _ _
  have hblk := (G1.below.block rb (Array.getElem?_eq_some_iff.1 h1).1).trans h1
  have c0 : W1.cell? ⟨rb, 0, none⟩ = some (.slice p n c) := by simp [World.cell?, hblk]
  have hlt := (Array.getElem?_eq_some_iff.1 hblk).1
  have HL : Hid (Ls EC W1 (.slice p n c) A) := owns_ls (E := EC) (owns_re (owns_below h3 G1.below) hn rfl)
  have HG1 := hid G1
  obtain ⟨d, hd⟩ : ∃ d, d = decide (Hld A t) := ⟨_, rfl⟩
  rw [← hd]
  have HD := hid hd
  clear h1 h2 h3 h4 hn hblk hd
  go_enter Try.func55, Try.ntmps55
  go_upto_region 1 with fail
  rw [← hW1, ← hb1]
  clear hW1 hb1 G1
  go_wp2_with fail
  go_loopw [6, 12] (fun _ s12 wr => ∃ k : Nat, k ≤ n ∧ s12 = .int .i64 (k : Nat) ∧ Hid (Gr W1 wr ∧ ¬ Hld (A.take k) t)) (fun _ s12 _ => n - (RowKit.intOf s12).toNat)
  case atStart => exact ⟨0, Nat.zero_le _, rfl, Gr.refl _, fun ⟨c, hc, _⟩ => by cases hc⟩
  case round =>
    obtain ⟨k, hk, rfl, HI⟩ := hrel
    by_cases hlt2 : k < n
    · have hz : (k : Int) < (n : Int) := by omega
      have hk0 : (0 : Int) ≤ (k : Int) := by omega
      obtain ⟨x, hx⟩ : ∃ x, A[k]? = some x := ⟨A[k]'(by have := HN.out; omega), by simp⟩
      obtain ⟨bq, oq, cq, eq, lq, y0, y1, y2, y3, y4⟩ := (HL.out.below HI.out.1.below).atC hx
      simp only [Value.slice.injEq] at eq
      obtain ⟨rfl, -, rfl⟩ := eq
      obtain ⟨W2, hW2⟩ : ∃ W2, W2 = wr.alloc (.cells #[.int .u64 x.1.1.1, .int .u64 x.1.1.2.1, .int .u64 x.1.1.2.2, .int .u64 x.2.1.1, .int .u64 x.2.2.1] 39) := ⟨_, rfl⟩
      obtain ⟨b2, hb2⟩ : ∃ b2, b2 = wr.heap.size := ⟨_, rfl⟩
      have G2 : Gr wr W2 := by rw [hW2]; exact (Gr.refl _).alloc _
      have hX2 : W2.heap[b2]? = some (.cells #[.int .u64 x.1.1.1, .int .u64 x.1.1.2.1, .int .u64 x.1.1.2.2, .int .u64 x.2.1.1, .int .u64 x.2.2.1] 39 (0, 0)) := by rw [hW2, hb2]; exact heap_new' _ _
      obtain ⟨m0, m1, m2, m3, m4, m5⟩ := cg_cell hX2
      have G12 := HI.out.1.trans G2
      obtain ⟨i0, i1, i2, i3⟩ := bx_cell ((G12.below.block b1 (Array.getElem?_eq_some_iff.1 HX1.out).1).trans HX1.out)
      have HG12 := hid G12
      have heq := run_eqd x.1 t
      have HTK : Hid (Hld (A.take (k + 1)) t ↔ Hld (A.take k) t ∨ x.1 = t) := by
        show _ ↔ _
        rw [← take_snoc hx, hld_snoc]
      have HMX : Hid (x ∈ A) := List.mem_of_getElem? hx
      clear hx hX2 G2 G12
      by_cases e : x.1 = t
      · rw [decide_eq_true e] at heq
        have hdt : d = true := by rw [HD.out]; exact decide_eq_true ⟨x, HMX.out, e⟩
        have HDT := hid hdt
        clear e hdt
        go_upto_region 4 with fail
        rw [← hW2, ← hb2]
        clear hW2 hb2 y0 y1 y2 y3 y4 lq
        go_wp2_with fail
        go_ret
        exact ⟨by rw [HDT.out]; rfl, HG1.out.trans HG12.out⟩
      · rw [decide_eq_false e] at heq
        have HE := hid e
        clear e
        go_upto_region 4 with fail
        rw [← hW2, ← hb2]
        clear hW2 hb2 y0 y1 y2 y3 y4 lq
        go_wp2_with fail
        go_roundw
        case rel => exact ⟨k + 1, by omega, by simp, HG12.out, fun h => (HTK.out.1 h).elim HI.out.2 HE.out⟩
        case measure => simp [RowKit.intOf]; omega
    · have hz : ¬ (k : Int) < (n : Int) := by omega
      have hdf : d = false := by
        rw [HD.out]
        have h := HI.out.2
        rw [List.take_of_length_le (by have := HN.out; omega)] at h
        exact decide_eq_false h
      have HDF := hid hdf
      clear hdf
      go_wp2_with fail
      go_ret
      exact ⟨by rw [HDF.out]; rfl, HG1.out.trans HI.out.1⟩
set_option maxHeartbeats 1000000 in
theorem rahead_any (x y : Tm) (w : World) : Calls Try.prog 56 #[tv x, tv y] w fun e w' => e = .returned (.bool (bel x y)) ∧ Gr w w' := by
  unfold bel tle
  by_cases h1 : x.1.1 ≤ y.1.1 <;> by_cases h2 : x.1.2.1 ≤ y.1.2.1 <;> by_cases h3 : x.1.2.2 ≤ y.1.2.2 <;>
  (go_enter Try.func56, Try.ntmps56
   go_wp2
   go_ret
   exact ⟨by simp [h1, h2, h3], ((Gr.refl _).alloc _).alloc _⟩)
set_option maxHeartbeats 2000000 in
theorem rbefore_any (x y : Tm) (w : World) : Calls Try.prog 37 #[tv x, tv y] w fun e w' => e = .returned (.bool (tol x y)) ∧ Gr w w' := by
  have ht := tol_iff x y
  obtain ⟨d, hd⟩ : ∃ d, d = tol x y := ⟨_, rfl⟩
  rw [← hd] at ht
  rw [← hd]
  have HT := hid ht
  clear ht hd
  by_cases h1 : x.1.1 = y.1.1
  · have e1 : ((x.1.1 : Int) == y.1.1) = true := by simp [h1]
    have e1' : ((x.1.1 : Int) != y.1.1) = false := by simp [h1]
    by_cases h2 : x.1.2.1 = y.1.2.1
    · have e2 : ((x.1.2.1 : Int) == y.1.2.1) = true := by simp [h2]
      have e2' : ((x.1.2.1 : Int) != y.1.2.1) = false := by simp [h2]
      have HF : Hid (d = decide (x.1.2.2 < y.1.2.2)) := by
        show _ = _
        rw [Bool.eq_iff_iff, HT.out, decide_eq_true_iff]
        omega
      clear h1 h2
      go_enter Try.func37, Try.ntmps37
      go_wp2
      go_ret
      exact ⟨by rw [HF.out]; rfl, ((Gr.refl _).alloc _).alloc _⟩
    · have e2 : ((x.1.2.1 : Int) == y.1.2.1) = false := by simp [h2]
      have e2' : ((x.1.2.1 : Int) != y.1.2.1) = true := by simp [h2]
      have HF : Hid (d = decide (x.1.2.1 < y.1.2.1)) := by
        show _ = _
        rw [Bool.eq_iff_iff, HT.out, decide_eq_true_iff]
        omega
      clear h1 h2
      go_enter Try.func37, Try.ntmps37
      go_wp2
      go_ret
      exact ⟨by rw [HF.out]; rfl, ((Gr.refl _).alloc _).alloc _⟩
  · have e1 : ((x.1.1 : Int) == y.1.1) = false := by simp [h1]
    have e1' : ((x.1.1 : Int) != y.1.1) = true := by simp [h1]
    have HF : Hid (d = decide (x.1.1 < y.1.1)) := by
      show _ = _
      rw [Bool.eq_iff_iff, HT.out, decide_eq_true_iff]
      omega
    clear h1
    go_enter Try.func37, Try.ntmps37
    go_wp2
    go_ret
    exact ⟨by rw [HF.out]; rfl, ((Gr.refl _).alloc _).alloc _⟩
set_option maxHeartbeats 4000000 in
set_option maxRecDepth 100000 in
theorem radd_any {S : Nat → Prop} {rb : Nat} {A : List Ct} (t : Tm) (r : Rc) (w : World) (h : Rs w S rb A) (hA : A.length ≤ 1000000) :
    Calls Try.prog 34 #[.pointer (some ⟨rb, 0, none⟩), tv t, rv r] w fun e w' => e = .returned (.bool (!decide (Hld A t))) ∧ Hid (Rs w' (nw S w) rb (A ++ [(t, r)]) ∧ Kp S w w') := by
  have hmx : Try.prog.follows .mixedOrders = true := by kernel_rfl
  obtain ⟨W2, hW2⟩ : ∃ W2, W2 = (w.alloc (.cells #[.int .u64 t.1.1, .int .u64 t.1.2.1, .int .u64 t.1.2.2] 32)).alloc (.cells #[.int .u64 r.1.1, .int .u64 r.2.1] 37) := ⟨_, rfl⟩
  obtain ⟨b1, hb1⟩ : ∃ b1, b1 = w.heap.size := ⟨_, rfl⟩
  obtain ⟨b2, hb2⟩ : ∃ b2, b2 = w.heap.size + 1 := ⟨_, rfl⟩
  have G2 : Gr w W2 := by rw [hW2]; exact ((Gr.refl _).alloc _).alloc _
  have HX1 : Hid (W2.heap[b1]? = some (.cells #[.int .u64 t.1.1, .int .u64 t.1.2.1, .int .u64 t.1.2.2] 32 (0, 0))) := by rw [hW2, hb1]; exact heap_alloc2_old _ _ _
  have HX2 : Hid (W2.heap[b2]? = some (.cells #[.int .u64 r.1.1, .int .u64 r.2.1] 37 (0, 0))) := by rw [hW2, hb2]; exact heap_alloc2_new _ _ _
  have HG2 := hid G2
  have HR := hid h
  have hhe := rheld_any t W2 (h.below G2.below) hA
  obtain ⟨d, hd⟩ : ∃ d, d = decide (Hld A t) := ⟨_, rfl⟩
  rw [← hd] at hhe ⊢
  obtain ⟨i0, i1, i2, i3⟩ := bx_cell HX1.out
  clear h hd
  go_enter Try.func34, Try.ntmps34
  go_upto_region 1 with fail
  rw [← hb2, ← hb1, ← hW2]
  clear hW2 hb1 hb2 G2
  go_wp2_with fail
  refine hhe.mono ?_
  rintro e W3 ⟨rfl, hg3⟩
  have HG3 : Hid (Gr w W3) := HG2.out.trans hg3
  have HY1 : Hid (W3.heap[b1]? = some (.cells #[.int .u64 t.1.1, .int .u64 t.1.2.1, .int .u64 t.1.2.2] 32 (0, 0))) := (hg3.below.block b1 (Array.getElem?_eq_some_iff.1 HX1.out).1).trans HX1.out
  have HY2 : Hid (W3.heap[b2]? = some (.cells #[.int .u64 r.1.1, .int .u64 r.2.1] 37 (0, 0))) := (hg3.below.block b2 (Array.getElem?_eq_some_iff.1 HX2.out).1).trans HX2.out
  clear i0 i1 i2 i3 hhe hg3 HX1 HX2
  obtain ⟨v, h1, h2, h3, h4⟩ := HR.out
  obtain ⟨p, c, hv⟩ := owns_form h3
  subst hv
  obtain ⟨n, hn⟩ : ∃ n, n = A.length := ⟨_, rfl⟩
  rw [← hn] at h1 h3 h4 hA
  have HN := hid hn
  have HB3 : Hid (W3.heap[rb]? = some (.cells #[.slice p n c] 52 (0, 0))) := (HG3.out.below.block rb (Array.getElem?_eq_some_iff.1 h1).1).trans h1
  have HR3 : Hid (W3.drew.ownsRow 0 39 5 (.slice p n c) n (fl EC A)) := owns_below h3 (HG3.out.drew).below
  have H4 := hid h4
  have H2 := hid h2
  have HNE : Hid (∀ j o, W3.drew.heap[j]? = some o → (∀ cur fz, o ≠ .cells cur 39 fz) → (Value.slice p n c).ownBlock ≠ some j) := fun j o hj ho e => by
    obtain ⟨_, ⟨h0, _⟩ | ⟨g', cap', cur, hv, _, hgg, _⟩⟩ := HR3.out
    · rw [h0] at e; cases e
    · rw [hv] at e
      obtain rfl : g' = j := by simpa [Value.ownBlock] using e
      rw [hgg] at hj
      exact ho cur (0, 0) (Option.some.inj hj).symm
  clear h1 h2 h3 h4 hn
  go_upto_region 2 with fail
  have hS0 : (fun X : World => Hid (X.heap[rb]? = some (.cells #[.slice p n c] 52 (0, 0))) ∧ Hid (X.heap[b1]? = some (.cells #[.int .u64 t.1.1, .int .u64 t.1.2.1, .int .u64 t.1.2.2] 32 (0, 0))) ∧ Hid (X.heap[b2]? = some (.cells #[.int .u64 r.1.1, .int .u64 r.2.1] 37 (0, 0)))) W3.drew := ⟨HB3, HY1, HY2⟩
  have HKE : Hid (∀ X : World, Kp (fun j => (Value.slice p n c).ownBlock = some j) W3.drew X → (fun X : World => Hid (X.heap[rb]? = some (.cells #[.slice p n c] 52 (0, 0))) ∧ Hid (X.heap[b1]? = some (.cells #[.int .u64 t.1.1, .int .u64 t.1.2.1, .int .u64 t.1.2.2] 32 (0, 0))) ∧ Hid (X.heap[b2]? = some (.cells #[.int .u64 r.1.1, .int .u64 r.2.1] 37 (0, 0)))) X) := fun X hX =>
    ⟨(hX.block rb (Array.getElem?_eq_some_iff.1 HB3.out).1 (HNE.out rb _ HB3.out (by simp))).trans HB3.out, (hX.block b1 (Array.getElem?_eq_some_iff.1 HY1.out).1 (HNE.out b1 _ HY1.out (by simp))).trans HY1.out, (hX.block b2 (Array.getElem?_eq_some_iff.1 HY2.out).1 (HNE.out b2 _ HY2.out (by simp))).trans HY2.out⟩
  refine wp_regionD (S := fun X : World => Hid (X.heap[rb]? = some (.cells #[.slice p n c] 52 (0, 0))) ∧ Hid (X.heap[b1]? = some (.cells #[.int .u64 t.1.1, .int .u64 t.1.2.1, .int .u64 t.1.2.2] 32 (0, 0))) ∧ Hid (X.heap[b2]? = some (.cells #[.int .u64 r.1.1, .int .u64 r.2.1] 37 (0, 0)))) (D := [11, 12]) hmx ?_
  refine' wpAnyD_take (i := 0) (oi := { dst := some 12, op := Go.Op.move (Go.Operand.tmp 0), type := 50, pos := "ref.go:38", after := #[], guard := none }) (v := _) rfl (by kernel_rfl) (by kernel_rfl) (by kernel_rfl) (fun _ _ _ h => h) (by kernel_rfl) (Or.inl ⟨by rfl, ?hy1⟩) hS0 ?rest1
  case hy1 => (intro W hSw; go_simp; try (with_reducible rfl))
  try simp only [Act.put, List.setIfInBounds_toArray, List.set_cons_zero, List.set_cons_succ]
  refine' wpAnyD_take (i := 1) (oi := { dst := some 13, op := Go.Op.move (Go.Operand.tmp 0), type := 50, pos := "ref.go:38", after := #[], guard := none }) (v := _) rfl (by kernel_rfl) (by kernel_rfl) (by kernel_rfl) (fun _ _ _ h => h) (by kernel_rfl) (Or.inl ⟨by rfl, ?hy2⟩) hS0 ?rest2
  case hy2 => (intro W hSw; go_simp; try (with_reducible rfl))
  try simp only [Act.put, List.setIfInBounds_toArray, List.set_cons_zero, List.set_cons_succ]
  refine' wpAnyD_take (i := 2) (oi := { dst := some 14, op := Go.Op.nilCheck (Go.Operand.tmp 13), type := 0, pos := "ref.go:38", after := #[{ on := 1, ground := Go.Ground.data }], guard := none }) (v := _) rfl (by kernel_rfl) (by kernel_rfl) (by kernel_rfl) (fun _ _ _ h => h) (by kernel_rfl) (Or.inl ⟨by rfl, ?hy3⟩) hS0 ?rest3
  case hy3 => (intro W hSw; obtain ⟨s1, s2, s3⟩ := hSw; obtain ⟨m0, m1, m2, m3⟩ := bx_cell s2.out; obtain ⟨m5, m6, m7⟩ := rc_cell s3.out; have m8 : W.cell? ⟨rb, 0, none⟩ = some (.slice p n c) := (by simp [World.cell?, s1.out]); have m9 := (Array.getElem?_eq_some_iff.1 s1.out).1; go_simp; try (with_reducible rfl))
  try simp only [Act.put, List.setIfInBounds_toArray, List.set_cons_zero, List.set_cons_succ]
  refine' wpAnyD_take (i := 3) (oi := { dst := some 15, op := Go.Op.fieldAddr 52 (Go.Operand.tmp 14) 0, type := 0, pos := "ref.go:38", after := #[{ on := 2, ground := Go.Ground.data }], guard := none }) (v := _) rfl (by kernel_rfl) (by kernel_rfl) (by kernel_rfl) (fun _ _ _ h => h) (by kernel_rfl) (Or.inl ⟨by rfl, ?hy4⟩) hS0 ?rest4
  case hy4 => (intro W hSw; go_simp; try (with_reducible rfl))
  try simp only [Act.put, List.setIfInBounds_toArray, List.set_cons_zero, List.set_cons_succ]
  refine' wpAnyD_take (i := 4) (oi := { dst := some 16, op := Go.Op.load 22 (Go.Operand.tmp 15), type := 22, pos := "ref.go:38", after := #[{ on := 3, ground := Go.Ground.data }], guard := none }) (v := _) rfl (by kernel_rfl) (by kernel_rfl) (by kernel_rfl) (fun _ _ _ h => h) (by kernel_rfl) (Or.inl ⟨by rfl, ?hy5⟩) hS0 ?rest5
  case hy5 => (intro W hSw; obtain ⟨s1, s2, s3⟩ := hSw; obtain ⟨m0, m1, m2, m3⟩ := bx_cell s2.out; obtain ⟨m5, m6, m7⟩ := rc_cell s3.out; have m8 : W.cell? ⟨rb, 0, none⟩ = some (.slice p n c) := (by simp [World.cell?, s1.out]); have m9 := (Array.getElem?_eq_some_iff.1 s1.out).1; go_simp; try (with_reducible rfl))
  try simp only [Act.put, List.setIfInBounds_toArray, List.set_cons_zero, List.set_cons_succ]
  refine' wpAnyD_take (i := 5) (oi := { dst := some 17, op := Go.Op.load 32 (Go.Operand.tmp 4), type := 32, pos := "ref.go:38", after := #[], guard := none }) (v := _) rfl (by kernel_rfl) (by kernel_rfl) (by kernel_rfl) (fun _ _ _ h => h) (by kernel_rfl) (Or.inl ⟨by rfl, ?hy6⟩) hS0 ?rest6
  case hy6 => (intro W hSw; obtain ⟨s1, s2, s3⟩ := hSw; obtain ⟨m0, m1, m2, m3⟩ := bx_cell s2.out; obtain ⟨m5, m6, m7⟩ := rc_cell s3.out; have m8 : W.cell? ⟨rb, 0, none⟩ = some (.slice p n c) := (by simp [World.cell?, s1.out]); have m9 := (Array.getElem?_eq_some_iff.1 s1.out).1; go_simp; try (with_reducible rfl))
  try simp only [Act.put, List.setIfInBounds_toArray, List.set_cons_zero, List.set_cons_succ]
  refine' wpAnyD_take (i := 6) (oi := { dst := some 18, op := Go.Op.load 37 (Go.Operand.tmp 5), type := 37, pos := "ref.go:38", after := #[], guard := none }) (v := _) rfl (by kernel_rfl) (by kernel_rfl) (by kernel_rfl) (fun _ _ _ h => h) (by kernel_rfl) (Or.inl ⟨by rfl, ?hy7⟩) hS0 ?rest7
  case hy7 => (intro W hSw; obtain ⟨s1, s2, s3⟩ := hSw; obtain ⟨m0, m1, m2, m3⟩ := bx_cell s2.out; obtain ⟨m5, m6, m7⟩ := rc_cell s3.out; have m8 : W.cell? ⟨rb, 0, none⟩ = some (.slice p n c) := (by simp [World.cell?, s1.out]); have m9 := (Array.getElem?_eq_some_iff.1 s1.out).1; go_simp; try (with_reducible rfl))
  try simp only [Act.put, List.setIfInBounds_toArray, List.set_cons_zero, List.set_cons_succ]
  refine' wpAnyD_take (i := 7) (oi := { dst := some 19, op := Go.Op.build 39 #[(0, Go.Operand.tmp 17), (1, Go.Operand.tmp 18)], type := 39, pos := "ref.go:38", after := #[{ on := 5, ground := Go.Ground.data }, { on := 6, ground := Go.Ground.data }], guard := none }) (v := _) rfl (by kernel_rfl) (by kernel_rfl) (by kernel_rfl) (fun _ _ _ h => h) (by kernel_rfl) (Or.inl ⟨by rfl, ?hy8⟩) hS0 ?rest8
  case hy8 => (intro W hSw; go_simp; try (with_reducible rfl))
  try simp only [Act.put, List.setIfInBounds_toArray, List.set_cons_zero, List.set_cons_succ]
  refine wpAnyD_one (i := 8) (o := { dst := some 20, op := Go.Op.buildSlice 22 1 #[(0, Go.Operand.tmp 19)], type := 22, pos := "ref.go:38", after := #[{ on := 7, ground := Go.Ground.data }], guard := none }) (by kernel_rfl) rfl (fun K hK => ?_)
  rw [if_pos (by kernel_rfl)]
  go_simp
  have hS7 : (fun X : World => Hid (X.heap[rb]? = some (.cells #[.slice p n c] 52 (0, 0))) ∧ Hid (X.heap[b1]? = some (.cells #[.int .u64 t.1.1, .int .u64 t.1.2.1, .int .u64 t.1.2.2] 32 (0, 0))) ∧ Hid (X.heap[b2]? = some (.cells #[.int .u64 r.1.1, .int .u64 r.2.1] 37 (0, 0)))) (W3.drew.alloc (.cells #[.int .u64 t.1.1, .int .u64 t.1.2.1, .int .u64 t.1.2.2, .int .u64 r.1.1, .int .u64 r.2.1] 39)) := HKE.out _ (Kp.of_gr ((Gr.refl _).alloc _))
  refine hK.out _ _ (fun hD => hS7) ?_
  clear hK K
  try simp only [Act.put, List.setIfInBounds_toArray, List.set_cons_zero, List.set_cons_succ]
  refine wpAnyD_one (i := 9) (o := { dst := some 21, op := Go.Op.call { callee := Go.Callee.builtin Go.Builtin.append, args := #[Go.Operand.tmp 16, Go.Operand.tmp 20], argTypes := #[22, 22] }, type := 22, pos := "ref.go:38", after := #[{ on := 4, ground := Go.Ground.data }, { on := 8, ground := Go.Ground.data }], guard := none }) (by kernel_rfl) rfl (fun K hK => ?_)
  refine step_app1 EC Try.underlying22 infoC rfl (by decide) rfl _ _ rfl 0 (.slice p n c) n _ rfl HR3.out (t, r) (by first | rfl | simp) (by omega) (by unfold maxLen; omega) (Nat.zero_le _) _ rfl _ ?_
  intro g8 cap8 w8 HO8 HG8 HB8
  have K8 := hid (Kp.grownBy (S := fun j => (Value.slice p n c).ownBlock = some j) HG8.out (fun _ h => h))
  have hS8 : (fun X : World => Hid (X.heap[rb]? = some (.cells #[.slice p n c] 52 (0, 0))) ∧ Hid (X.heap[b1]? = some (.cells #[.int .u64 t.1.1, .int .u64 t.1.2.1, .int .u64 t.1.2.2] 32 (0, 0))) ∧ Hid (X.heap[b2]? = some (.cells #[.int .u64 r.1.1, .int .u64 r.2.1] 37 (0, 0)))) w8 := HKE.out w8 K8.out
  refine hK.out _ _ (fun hD => hS8) ?_
  clear hK K
  try simp only [Act.put, List.setIfInBounds_toArray, List.set_cons_zero, List.set_cons_succ]
  refine' wpAnyD_take (i := 10) (oi := { dst := some 22, op := Go.Op.nilCheck (Go.Operand.tmp 12), type := 0, pos := "ref.go:38", after := #[{ on := 0, ground := Go.Ground.data }, { on := 0, ground := Go.Ground.phase }, { on := 1, ground := Go.Ground.phase }, { on := 2, ground := Go.Ground.phase }, { on := 3, ground := Go.Ground.phase }, { on := 4, ground := Go.Ground.phase }, { on := 5, ground := Go.Ground.phase }, { on := 6, ground := Go.Ground.phase }, { on := 7, ground := Go.Ground.phase }, { on := 8, ground := Go.Ground.phase }, { on := 9, ground := Go.Ground.phase }], guard := none }) (v := _) rfl (by kernel_rfl) (by kernel_rfl) (by kernel_rfl) (fun _ _ _ h => h) (by kernel_rfl) (Or.inl ⟨by rfl, ?hy11⟩) hS8 ?rest11
  case hy11 => (intro W hSw; obtain ⟨s1, s2, s3⟩ := hSw; obtain ⟨m0, m1, m2, m3⟩ := bx_cell s2.out; obtain ⟨m5, m6, m7⟩ := rc_cell s3.out; have m8 : W.cell? ⟨rb, 0, none⟩ = some (.slice p n c) := (by simp [World.cell?, s1.out]); have m9 := (Array.getElem?_eq_some_iff.1 s1.out).1; go_simp; try (with_reducible rfl))
  try simp only [Act.put, List.setIfInBounds_toArray, List.set_cons_zero, List.set_cons_succ]
  refine wpAnyD_one (i := 11) (o := { dst := some 23, op := Go.Op.fieldAddr 52 (Go.Operand.tmp 22) 0, type := 0, pos := "ref.go:38", after := #[{ on := 10, ground := Go.Ground.data }, { on := 0, ground := Go.Ground.phase }, { on := 1, ground := Go.Ground.phase }, { on := 2, ground := Go.Ground.phase }, { on := 3, ground := Go.Ground.phase }, { on := 4, ground := Go.Ground.phase }, { on := 5, ground := Go.Ground.phase }, { on := 6, ground := Go.Ground.phase }, { on := 7, ground := Go.Ground.phase }, { on := 8, ground := Go.Ground.phase }, { on := 9, ground := Go.Ground.phase }], guard := none }) (by kernel_rfl) rfl (fun K hK => ?_)
  go_simp
  refine hK.out _ _ (fun hD => absurd (by decide) hD) ?_
  clear hK K
  try simp only [Act.put, List.setIfInBounds_toArray, List.set_cons_zero, List.set_cons_succ]
  refine wpAnyD_one (i := 12) (o := { dst := none, op := Go.Op.store 22 (Go.Operand.tmp 23) (Go.Operand.tmp 21), type := 0, pos := "ref.go:38", after := #[{ on := 11, ground := Go.Ground.data }, { on := 9, ground := Go.Ground.data }, { on := 9, ground := Go.Ground.chain }, { on := 0, ground := Go.Ground.phase }, { on := 1, ground := Go.Ground.phase }, { on := 2, ground := Go.Ground.phase }, { on := 3, ground := Go.Ground.phase }, { on := 4, ground := Go.Ground.phase }, { on := 5, ground := Go.Ground.phase }, { on := 6, ground := Go.Ground.phase }, { on := 7, ground := Go.Ground.phase }, { on := 8, ground := Go.Ground.phase }, { on := 9, ground := Go.Ground.phase }], guard := none }) (by kernel_rfl) rfl (fun K hK => ?_)
  rw [if_pos (by kernel_rfl)]
  obtain ⟨a1, a2, a3⟩ := setCell_blk (k := 0) (v := .slice (some ⟨g8, 0, none⟩) (n + 1) cap8) hS8.1.out
  have f8 : w8.frozen? ⟨rb, 0, none⟩ = false := by simp [World.frozen?, hS8.1.out]
  have c8 : w8.cell? ⟨rb, 0, none⟩ = some (.slice p n c) := by simp [World.cell?, hS8.1.out]
  have l8 := (Array.getElem?_eq_some_iff.1 hS8.1.out).1
  go_simp
  have HST := hid (And.intro a1 a2)
  clear a1 a2 a3
  generalize w8.setCell ⟨rb, 0, none⟩ (.slice (some ⟨g8, 0, none⟩) (n + 1) cap8) = w9 at HST ⊢
  refine hK.out _ _ (fun hD => absurd (by decide) hD) ?_
  clear hK K
  try simp only [Act.put, List.setIfInBounds_toArray, List.set_cons_zero, List.set_cons_succ]
  refine wpAnyD_done (by kernel_rfl) ?_ _
  have HFin : Hid (Rs w9 (nw S w) rb (A ++ [(t, r)]) ∧ Kp S w w9) := by
    have hrb : rb ≠ g8 := fun e => by
      obtain ⟨_, ⟨h0, _⟩ | ⟨g', cap', cur, hv, _, hgg, _⟩⟩ := HO8.out
      · cases h0
      · cases hv
        rw [← e, hS8.1.out] at hgg
        simp at hgg
    refine ⟨⟨_, HST.out.1, .inl ⟨H2.out, ?_⟩, ?_, ?_⟩, ?_⟩
    · exact HR.out.lt
    · rw [List.length_append, ← HN.out, fl_append, fl_one]
      exact owns_kp HST.out.2 HO8.out (fun k hk e => hrb (by have : g8 = k := (by simpa [Value.ownBlock] using hk); rw [this, e]))
    · intro g hg
      have hgg : g8 = g := by simpa [Value.ownBlock] using hg
      subst hgg
      rcases HB8.out with e | e
      · refine .inl ⟨H4.out _ e, ?_⟩
        obtain ⟨v', g1, g2, g3, g4⟩ := HR.out
        by_cases hlt : g8 < w.heap.size
        · exact hlt
        · exfalso
          have h9 : v' = .slice p n c := by
            have q1 := (HG3.out.below.block rb (Array.getElem?_eq_some_iff.1 g1).1).trans g1
            rw [HB3.out] at q1
            simpa using q1.symm
          rw [h9] at g3
          have := (g3.lt g8 e).2
          omega
      · exact .inr (Nat.le_trans (HG3.out.drew).size e)
    · exact ((Kp.of_gr (S := S) HG3.out.drew).trans K8.out (fun k _ e => H4.out k e)).trans HST.out.2 (fun k _ e => e ▸ H2.out)
  clear hS0 hS7 hS8 HKE HO8 HG8 HB8 K8 HST
  go_wp2_with fail
  go_ret
  exact ⟨by simp, HFin.out⟩
end Go.Proofs.Ytijbmchgajhkeaa
